import PyProof.Rows.All
import Wide.All
import OpenK.AllK
import Wide.FinOn
import Lean
import PyProof.EqAt
import PyProof.EqKinds
import PyProof.TupleCall
import PyProof.NeKinds
import PyProof.Rows.SumAny
import PyProof.Rows.SortWalk
import PyProof.WalksEnum
import PyProof.AttrMissHeap
import KE.KDictOf
import PyProof.DictWalks
import KE.KRevIter
import PyProof.Rows.SeqMore2
import Wide.Seal
import KE.KDictList
import PyProof.ZipIter
import PyProof.TupleIter
import PyProof.ListMulRoad
import PyProof.TupleOps
import PyProof.FactsAll.tuple
import PyProof.Rows.CallKwBuiltin
import PyProof.WalkInts
import PyProof.DictValues
import PyProof.Rows.SetFrom
import PyProof.SetRoads
import KE.KIntText
import PyProof.SliceStr2
import PyProof.StrLawsIdx
import PyProof.StrLawsTight
import PyProof.StrCalls2
import PyProof.StrLoop
import PyProof.StrWalks
import PyProof.FitsReplace
import PySem.Challenge.RW_leafpages_k47_layouts_written
set_option Elab.async false
set_option linter.all false
set_option maxRecDepth 100000
set_option maxHeartbeats 4000000
/-! THE HAND LAYER, for ints, bools, texts, own classes, LISTS and tuples (index, slices, in, append, pop ..), calls, loops. Paste it whole ahead of your own text; what your proof does not reach may be deleted. -/
namespace L2
open PySem PySem.Spec PyProof.Rows

/-- a key: an int or a str -/
abbrev Key := Sum Int Str
def keyIs : Key → Value → Bool
  | .inl k, v => Value.isInt k v
  | .inr x, v => Value.isStrOf x v
def keyH (w : World) : Key → Int
  | .inl k => hashInt k
  | .inr x => hashStr w x
theorem keyIs_shape : ∀ {k : Key} {v : Value}, keyIs k v = true → (∃ i t, k = Sum.inl i ∧ v = Value.int i t) ∨ (∃ x t, k = Sum.inr x ∧ v = Value.str x t)
  | .inl i, v, h => by
    obtain ⟨t, e⟩ := Value.isInt_shape (k := i) (v := v) h
    exact .inl ⟨i, t, rfl, e⟩
  | .inr x, v, h => by
    obtain ⟨t, e⟩ := Value.isStrOf_shape (x := x) (v := v) h
    exact .inr ⟨x, t, rfl, e⟩
theorem keyIs_int (i : Int) (t : Tok) : keyIs (.inl i) (.int i t) = true := by simp [keyIs, Value.isInt]
theorem keyIs_str (x : Str) (t : Tok) : keyIs (.inr x) (.str x t) = true := by simp [keyIs, Value.isStrOf]
theorem key_ll (a b : Int) : decide ((Sum.inl a : Key) = Sum.inl b) = (a == b) := by
  by_cases e : a = b
  · subst e; simp
  · have h : ¬ (Sum.inl a : Key) = Sum.inl b := fun q => e (Sum.inl.inj q)
    rw [decide_eq_false h]
    exact (beq_eq_false_iff_ne.mpr e).symm
theorem key_rr (a b : Str) : decide ((Sum.inr a : Key) = Sum.inr b) = decide (a = b) := by
  by_cases e : a = b
  · subst e; simp
  · have h : ¬ (Sum.inr a : Key) = Sum.inr b := fun q => e (Sum.inr.inj q)
    rw [decide_eq_false h, decide_eq_false e]
theorem key_lr (a : Int) (b : Str) : decide ((Sum.inl a : Key) = Sum.inr b) = false := decide_eq_false (fun q => nomatch q)
theorem key_rl (a : Str) (b : Int) : decide ((Sum.inr a : Key) = Sum.inl b) = false := decide_eq_false (fun q => nomatch q)

def mixKind (prog : Program) (w : World) : PySem.KeyKind prog w Key where
  is := keyIs
  hash := keyH w
  inj := fun v a b ha hb => by
    rcases keyIs_shape ha with ⟨i, t, rfl, rfl⟩ | ⟨x, t, rfl, rfl⟩
    · rcases keyIs_shape hb with ⟨j, u, rfl, e⟩ | ⟨y, u, rfl, e⟩
      · injection e with e1 _; rw [e1]
      · exact nomatch e
    · rcases keyIs_shape hb with ⟨j, u, rfl, e⟩ | ⟨y, u, rfl, e⟩
      · exact nomatch e
      · injection e with e1 _; rw [e1]
  byValue := fun k v h => by
    rcases keyIs_shape h with ⟨i, t, rfl, rfl⟩ | ⟨x, t, rfl, rfl⟩ <;> rfl
  pyHash := fun hv h => by
    rcases keyIs_shape hv with ⟨i, t, rfl, rfl⟩ | ⟨x, t, rfl, rfl⟩
    · exact wpAny_pyHash_int h
    · exact wpAny_pyHash_str h
  eqBool := fun hu hv h => by
    rcases keyIs_shape hu with ⟨i, t, rfl, rfl⟩ | ⟨x, t, rfl, rfl⟩
    · rcases keyIs_shape hv with ⟨j, u, rfl, rfl⟩ | ⟨y, u, rfl, rfl⟩
      · rw [key_ll] at h; exact wpAny_eqBool_int h
      · rw [key_lr] at h; exact SeqAt.EqAt.int_str i t y u _ _ _ _ h
    · rcases keyIs_shape hv with ⟨j, u, rfl, rfl⟩ | ⟨y, u, rfl, rfl⟩
      · rw [key_rl] at h; exact SeqAt.EqAt.str_int x t j u _ _ _ _ h
      · rw [key_rr] at h; exact wpAny_eqBool_str h
  «strs» := fun k x t v h => by
    rcases keyIs_shape h with ⟨i, u, rfl, e⟩ | ⟨y, u, rfl, e⟩
    · exact nomatch e
    · injection e with e1 _
      subst e1
      cases v <;> rfl

theorem mixKind_is (prog : Program) (w : World) (k : Key) (v : Value) : (mixKind prog w).is k v = keyIs k v := rfl
theorem mixKind_int (prog : Program) (w : World) (i : Int) (t : Tok) : (mixKind prog w).is (.inl i) (.int i t) = true := keyIs_int i t
theorem mixKind_str (prog : Program) (w : World) (x : Str) (t : Tok) : (mixKind prog w).is (.inr x) (.str x t) = true := keyIs_str x t
end L2

namespace L2
open PySem PySem.Spec PyProof.Rows

/-- a value, without the heap -/
inductive V where
  | non | bl (b : Bool) | int (i : Int) | str (x : Str) | byt (b : Array UInt8) | flt (b : UInt64) | ref (a : Addr) | ty (n : String)
  deriving DecidableEq

def RelV : V → Value → Prop
  | .non, u => u = Value.none
  | .bl b, u => u = Value.bool b
  | .int i, u => ∃ t, u = Value.int i t
  | .str x, u => ∃ t, u = Value.str x t
  | .byt b, u => ∃ t, u = Value.bytes b t
  | .flt b, u => ∃ t, u = Value.float b t
  | .ref a, u => u = Value.ref a
  | .ty n, u => u = Value.type n

abbrev Vals : List V → List Value → Prop := Paired RelV
theorem Vals.length {xs : List V} {us : List Value} (r : Vals xs us) : xs.length = us.length := Paired.length r
theorem Vals.get : ∀ {xs : List V} {us : List Value} {i : Nat} {x : V}, Vals xs us → xs[i]? = some x → ∃ u, us[i]? = some u ∧ RelV x u
  | _, _, _, _, .nil, e => by simp at e
  | _, _, 0, _, .cons r _, e => by simp at e; subst e; exact ⟨_, rfl, r⟩
  | _, _, i + 1, x, .cons _ t, e => by
    obtain ⟨u, h1, h2⟩ := Vals.get (i := i) (x := x) t (by simpa using e)
    exact ⟨u, by simpa using h1, h2⟩
theorem Vals.set {x : V} {u : Value} (r : RelV x u) : ∀ {xs : List V} {us : List Value} (i : Nat), Vals xs us → Vals (xs.set i x) (us.set i u)
  | _, _, _, .nil => .nil
  | _, _, 0, .cons _ t => .cons r t
  | _, _, i + 1, .cons q t => .cons q (Vals.set r i t)
theorem Vals.append : ∀ {xs ys : List V} {us ws : List Value}, Vals xs us → Vals ys ws → Vals (xs ++ ys) (us ++ ws)
  | _, _, _, _, .nil, s => s
  | _, _, _, _, .cons r t, s => .cons r (Vals.append t s)
theorem Vals.take : ∀ {xs : List V} {us : List Value} (n : Nat), Vals xs us → Vals (xs.take n) (us.take n)
  | _, _, 0, _ => .nil
  | _, _, _ + 1, .nil => .nil
  | _, _, n + 1, .cons r t => .cons r (Vals.take n t)
theorem Vals.drop : ∀ {xs : List V} {us : List Value} (n : Nat), Vals xs us → Vals (xs.drop n) (us.drop n)
  | _, _, 0, r => r
  | _, _, _ + 1, .nil => .nil
  | _, _, n + 1, .cons _ t => Vals.drop n t
theorem Vals.none_of : ∀ {xs : List V} {us : List Value} {i : Nat}, Vals xs us → xs[i]? = none → us[i]? = none := fun {xs us i} r e => by
  have h1 := r.length
  have h2 : xs.length ≤ i := List.getElem?_eq_none_iff.mp e
  exact List.getElem?_eq_none_iff.mpr (by omega)

def RelO : Option V → Option Value → Prop
  | some v, some u => RelV v u
  | none, none => True
  | _, _ => False
def KV {κ : Type} : List (κ × V) → List (κ × Value) → Prop := Paired fun (p : κ × V) (q : κ × Value) => p.1 = q.1 ∧ RelV p.2 q.2

/-- a key of a dict (00_mix): an int or a text -/
def kV : Key → V
  | .inl i => .int i
  | .inr x => .str x

/-- what stands at a tracked address -/
inductive HO where
  /-- a list -/
  | lst (xs : List V)
  /-- a tuple (never changes) -/
  | tup (xs : List V)
  /-- a dict whose keys are ints and texts; one whose keys are tuples of ints and texts (the empty one is both) -/
  | dK (kvs : List (Key × V)) | dT (kvs : List (List Key × V))
  /-- a set of ints: its members, its size -/
  | set (S : Int → Bool) (n : Nat)
  /-- an instance of the class at C, its dict at dx, its attributes -/
  | ins (C dx : Addr) (fs : List (Str × V))
  /-- the dict of the instance at x -/
  | own (x : Addr)
  /-- the dict of an exception -/
  | xd (fs : List (Str × V))
  /-- a bound method, f of x -/
  | met (f x : Addr)
  /-- a range object lo, lo + 1, .. below hi -/
  | rng (lo hi : Int)
  /-- a thing that is known to the object (the script; a dict while a loop walks it): read, never written while it is so -/
  | frz (o : Obj) (u : HO)
  /-- a code object's table -/
  | tbl (ps : Array Value)
  /-- any other thing, by what is true of its one object (a def of one's own: SetO a S n := HO.ext fun h => ..) -/
  | ext (φ : Heap → Prop)

abbrev Hp := Addr → Option HO
def upd (H : Hp) (a : Addr) (o : HO) : Hp := fun b => if b = a then some o else H b
theorem upd_same {H : Hp} {a : Addr} {o : HO} : upd H a o a = some o := by unfold upd; rw [if_pos rfl]
theorem upd_ne {H : Hp} {a b : Addr} {o : HO} (h : b ≠ a) : upd H a o b = H b := by unfold upd; rw [if_neg h]
theorem upd_upd {H : Hp} {a : Addr} {o u : HO} : upd (upd H a o) a u = upd H a u := by
  funext b; unfold upd; split <;> rfl
/-- two objects of different content stand apart -/
theorem ne_of {H : Hp} {a b : Addr} {o u : HO} (h : H a = some o) (h' : H b = some u) (d : o ≠ u) : a ≠ b := by
  intro e; subst e; rw [h] at h'; exact d (Option.some.inj h')
theorem ne_of_none {H : Hp} {a b : Addr} {o : HO} (h : H a = some o) (h' : H b = none) : a ≠ b := by
  intro e; subst e; rw [h] at h'; cases h'

section
variable (P : Program) (w : World)
def ObjOk (H : Hp) (h : Heap) (a : Addr) : HO → Prop
  | .lst xs => xs.length ≤ sizeLine ∧ ∃ (its : List Value) (n : Nat), Vals xs its ∧ h.get? a = some { cls := .type "list", data := .seq its.toArray n }
  | .tup xs => xs.length ≤ sizeLine ∧ ∃ its : List Value, Vals xs its ∧ IsTup h a its.toArray
  | .dK kvs => kvs.length ≤ sizeLine ∧ (a == sysModules) = false ∧ ∃ vs, KV kvs vs ∧ h.DictOf (mixKind P w) a vs
  | .dT kvs => kvs.length ≤ sizeLine ∧ (a == sysModules) = false ∧ ∃ xs : List (List Key × Addr × Value),
      Paired (fun (p : List Key × V) (q : List Key × Addr × Value) => p.1 = q.1 ∧ H q.2.1 = some (.tup (p.1.map kV)) ∧ RelV p.2 q.2.2) kvs xs ∧
      ∃ o es ep, h.get? a = some o ∧ o.ExactDict ∧ o.data = .dict es ep ∧ es.toList = xs.map (entryOfKey (tupleKind (mixKind P w))) ∧ (xs.map (·.1)).Nodup
  | .set S n => h.SetOf (intKind P w) a S n
  | .ins C dx fs => H dx = some (.own a) ∧ fs.length ≤ 1000 ∧ dx ≠ a ∧ h.get? a = some (PySem.W.instObj C dx) ∧
      ∃ mA, h.Ns1 dx mA ∧ (∀ f, RelO (fs.lookup f) (mA f)) ∧ PySem.Within mA (fs.map (·.1))
  | .own _ => ∃ o, h.get? a = some o
  | .xd fs => ∃ mA, h.Ns1 a mA ∧ ∀ f, RelO (fs.lookup f) (mA f)
  | .rng lo hi => ∃ t u v, h.get? a = some { cls := .type "range", data := .fields #[.int lo t, .int hi u, .int 1 v] }
  | .frz o u => h.get? a = some o ∧ ObjOk H h a u
  | .tbl ps => h.get? a = some { cls := .none, data := .fields ps }
  | .met f x => h.get? a = some (PySem.W.methodObj (.ref f) (.ref x))
  | .ext φ => φ h ∧ (∃ o, h.get? a = some o) ∧ ∀ h1 h2 : Heap, φ h1 → (∀ o, h1.get? a = some o → h2.get? a = some o) → φ h2
/-- the abstract heap is held -/
def HOk (H : Hp) (h : Heap) : Prop := ∀ a o, H a = some o → ObjOk P w H h a o
end

section
variable {P : Program} {w : World} {H H' : Hp} {h h' : Heap} {a : Addr} {o : HO}
theorem ObjOk.lt (x : ObjOk P w H h a o) : a < h.objs.size := by
  cases o with
  | lst xs => obtain ⟨_, _, _, _, e⟩ := x; exact Heap.lt_size e
  | tup xs => obtain ⟨_, _, _, p⟩ := x; exact p.lt
  | dK kvs => obtain ⟨_, _, _, _, o, _, _, e, _⟩ := x; exact Heap.lt_size e
  | dT kvs => obtain ⟨_, _, _, _, o, _, _, e, _⟩ := x; exact Heap.lt_size e
  | set S n => obtain ⟨o, _, _, _, e, _⟩ := x; exact Heap.lt_size e
  | ins C dx fs => obtain ⟨_, _, _, e, _⟩ := x; exact Heap.lt_size e
  | own y => obtain ⟨_, e⟩ := x; exact Heap.lt_size e
  | xd fs => obtain ⟨_, ⟨_, _, _, e, _⟩, _⟩ := x; exact Heap.lt_size e
  | rng lo hi => obtain ⟨_, _, _, e⟩ := x; exact Heap.lt_size e
  | frz ob u => obtain ⟨e, _⟩ := x; exact Heap.lt_size e
  | tbl ps => exact Heap.lt_size (show h.get? a = some _ from x)
  | met f y => exact Heap.lt_size (show h.get? a = some _ from x)
  | ext φ => obtain ⟨_, ⟨_, e⟩, _⟩ := x; exact Heap.lt_size e
theorem Paired.mapP {α β : Type} {F G : α → β → Prop} : ∀ {l₁ : List α} {l₂ : List β}, Paired F l₁ l₂ → (∀ a b, F a b → G a b) → Paired G l₁ l₂
  | _, _, .nil, _ => .nil
  | _, _, .cons r t, f => .cons (f _ _ r) (Paired.mapP t f)
theorem Paired.imp' {α β : Type} {F G : α → β → Prop} (f : ∀ a b, F a b → G a b) {l₁ : List α} {l₂ : List β} (r : Paired F l₁ l₂) : Paired G l₁ l₂ := Paired.mapP r f
/-- what an object's description leans on: its own object, its own dict, the tuples -/
theorem ObjOk.stay (x : ObjOk P w H h a o) (k : ∀ b u, (b = a ∨ H b = some (.own a)) → h.get? b = some u → h'.get? b = some u)
    (ho : ∀ b, H b = some (.own a) → H' b = some (.own a)) (ht : ∀ b xs, H b = some (.tup xs) → H' b = some (.tup xs)) : ObjOk P w H' h' a o := by
  induction o with
  | lst xs => obtain ⟨z, its, n, r, e⟩ := x; exact ⟨z, its, n, r, k _ _ (.inl rfl) e⟩
  | tup xs => obtain ⟨z, its, r, ob, e, c⟩ := x; exact ⟨z, its, r, ob, k _ _ (.inl rfl) e, c⟩
  | dK kvs => obtain ⟨z, y, vs, r, ob, es, ep, e, c⟩ := x; exact ⟨z, y, vs, r, ob, es, ep, k _ _ (.inl rfl) e, c⟩
  | dT kvs =>
    obtain ⟨z, y, xs, r, ob, es, ep, e, c⟩ := x
    exact ⟨z, y, xs, Paired.mapP r fun p q z => ⟨z.1, ht _ _ z.2.1, z.2.2⟩, ob, es, ep, k _ _ (.inl rfl) e, c⟩
  | set S n => obtain ⟨ob, es, ep, t, e, c⟩ := x; exact ⟨ob, es, ep, t, k _ _ (.inl rfl) e, c⟩
  | ins C dx fs =>
    obtain ⟨d, z, ne, e, mA, ⟨od, es, ep, e2, c⟩, r⟩ := x
    exact ⟨ho _ d, z, ne, k _ _ (.inl rfl) e, mA, ⟨od, es, ep, k _ _ (.inr d) e2, c⟩, r⟩
  | own y => obtain ⟨ob, e⟩ := x; exact ⟨ob, k _ _ (.inl rfl) e⟩
  | xd fs => obtain ⟨mA, ⟨od, es, ep, e, c⟩, r⟩ := x; exact ⟨mA, ⟨od, es, ep, k _ _ (.inl rfl) e, c⟩, r⟩
  | rng lo hi => obtain ⟨t, u, v, e⟩ := x; exact ⟨t, u, v, k _ _ (.inl rfl) e⟩
  | frz ob u ih => obtain ⟨e, q⟩ := x; exact ⟨k _ _ (.inl rfl) e, ih q⟩
  | tbl ps =>
    have e : h.get? a = some { cls := .none, data := .fields ps } := x
    show h'.get? a = some { cls := .none, data := .fields ps }
    exact k a _ (.inl rfl) e
  | met f y =>
    have e : h.get? a = some (PySem.W.methodObj (.ref f) (.ref y)) := x
    show h'.get? a = some (PySem.W.methodObj (.ref f) (.ref y))
    exact k a _ (.inl rfl) e
  | ext φ => obtain ⟨p, ⟨o, e⟩, st⟩ := x; exact ⟨st _ _ p fun o q => k _ _ (.inl rfl) q, ⟨o, k _ _ (.inl rfl) e⟩, st⟩
theorem HOk.lt (x : HOk P w H h) (e : H a = some o) : a < h.objs.size := (x a o e).lt
theorem HOk.fresh (x : HOk P w H h) (e : h.objs.size ≤ a) : H a = none := by
  cases q : H a with
  | none => rfl
  | some u => exact absurd (Nat.lt_of_lt_of_le (x.lt q) e) (Nat.lt_irrefl _)
/-- every object of the heap is kept -/
theorem HOk.kept (x : HOk P w H h) (k : ∀ b u, h.get? b = some u → h'.get? b = some u) : HOk P w H h' := fun a o e =>
  (x a o e).stay (fun b u _ q => k b u q) (fun _ q => q) fun _ _ q => q
/-- a new object is laid and tracked -/
theorem HOk.laid (x : HOk P w H h) (k : ∀ b u, h.get? b = some u → h'.get? b = some u) (hp : h.objs.size ≤ a) (new : ObjOk P w (upd H a o) h' a o) : HOk P w (upd H a o) h' := fun b u e => by
  have hn := x.fresh hp
  by_cases hb : b = a
  · subst hb; rw [upd_same] at e; cases e; exact new
  · rw [upd_ne hb] at e
    exact (x b u e).stay (fun c v _ q => k c v q) (fun c q => by rw [upd_ne (ne_of_none q hn)]; exact q) fun c xs q => by rw [upd_ne (ne_of_none q hn)]; exact q
end

/-- what may be read as u: it is u, or a known u -/
def Rd (H : Hp) (a : Addr) (u : HO) : Prop := H a = some u ∨ ∃ o, H a = some (.frz o u)
theorem Rd.of {H : Hp} {a : Addr} {u : HO} (h : H a = some u) : Rd H a u := .inl h
theorem Rd.ok {P : Program} {w : World} {H : Hp} {h : Heap} {a : Addr} {u : HO} (r : Rd H a u) (x : HOk P w H h) : ObjOk P w H h a u := by
  rcases r with r | ⟨o, r⟩
  · exact x a u r
  · obtain ⟨_, q⟩ := x a _ r
    exact q
/-- what may be written -/
def Mut : Option HO → Prop
  | some (.lst _) => True
  | some (.dK _) => True
  | some (.dT _) => True
  | some (.set _ _) => True
  | some (.ins _ _ _) => True
  | some (.ext _) => True
  | _ => False
section
variable {P : Program} {w : World} {H : Hp} {h h' : Heap} {x e : Addr} {o' : HO}
/-- the object at e is changed: x itself, or the dict of the instance x -/
theorem HOk.write (ok : HOk P w H h) (mu : Mut (H x)) (he : e = x ∨ H e = some (.own x)) (k : ∀ b u, b ≠ e → h.get? b = some u → h'.get? b = some u) (heo : ∃ u, h'.get? e = some u)
    (new : ObjOk P w (upd H x o') h' x o') : HOk P w (upd H x o') h' := fun b u q => by
  have nown : ∀ c y, H c = some (.own y) → c ≠ x := fun c y r z => by subst z; rw [r] at mu; exact mu
  have ntup : ∀ c xs, H c = some (.tup xs) → c ≠ x := fun c xs r z => by subst z; rw [r] at mu; exact mu
  by_cases hb : b = x
  · subst hb; rw [upd_same] at q; cases q; exact new
  · rw [upd_ne hb] at q
    by_cases hbe : b = e
    · have q' : H b = some (.own x) := by
        rcases he with z | z
        · exact absurd (hbe.trans z) hb
        · rw [hbe]; exact z
      rw [q] at q'; cases q'
      obtain ⟨v, hv⟩ := heo
      exact ⟨v, by rw [hbe]; exact hv⟩
    · refine (ok b u q).stay (fun c v hc r => k c v ?_ r) (fun c r => by rw [upd_ne (nown c b r)]; exact r) fun c xs r => by rw [upd_ne (ntup c xs r)]; exact r
      rcases hc with rfl | hc
      · exact hbe
      · rintro rfl
        rcases he with z | z
        · exact nown c b hc z
        · rw [hc] at z; cases z; exact hb rfl
end

/-! ### kept unless tracked; of the frames at fs (the callers') the slots may change (an exception that passes writes there); of the records at ex (iterators) nothing is said -/
structure Un (fs ex : List Addr) (H H' : Hp) (h h' : Heap) : Prop where
  keep : ∀ b o, h.get? b = some o → H b = none → b ∉ fs → b ∉ ex → h'.get? b = some o
  slot : ∀ b o, h.get? b = some o → H b = none → b ∈ fs → b ∉ ex → ∃ sl, h'.get? b = some { o with slots := sl }
  free : ∀ b o, h.get? b = some o → H b = none → b ∉ ex → H' b = none
  there : ∀ b o, h.get? b = some o → b ∉ ex → ∃ o', h'.get? b = some o'
  tups : ∀ b xs, H b = some (.tup xs) → H' b = some (.tup xs)
  frzs : ∀ b o u, H b = some (.frz o u) → H' b = some (.frz o u)
  tbls : ∀ b ps, H b = some (.tbl ps) → ∃ more, H' b = some (.tbl (ps ++ more))
section
variable {fs fs' ex ex' : List Addr} {H H1 H2 : Hp} {h h1 h2 h' : Heap} {a x e : Addr} {o : HO}
theorem Un.any (u : Un fs ex H H1 h h1) {b : Addr} {ob : Obj} (q : h.get? b = some ob) (n : H b = none) (hx : b ∉ ex) : ∃ sl, h1.get? b = some { ob with slots := sl } := by
  by_cases hb : b ∈ fs
  · exact u.slot b ob q n hb hx
  · exact ⟨ob.slots, u.keep b ob q n hb hx⟩
theorem Un.trans (a : Un fs ex H H1 h h1) (b : Un fs ex H1 H2 h1 h2) : Un fs ex H H2 h h2 where
  keep := fun c ob q n hc hx => b.keep c ob (a.keep c ob q n hc hx) (a.free c ob q n hx) hc hx
  slot := fun c ob q n hc hx => by
    obtain ⟨sl, e1⟩ := a.slot c ob q n hc hx
    obtain ⟨sl', e2⟩ := b.slot c _ e1 (a.free c ob q n hx) hc hx
    exact ⟨sl', e2⟩
  free := fun c ob q n hx => by
    obtain ⟨o', e1⟩ := a.there c ob q hx
    exact b.free c o' e1 (a.free c ob q n hx) hx
  there := fun c ob q hx => by
    obtain ⟨o', e1⟩ := a.there c ob q hx
    exact b.there c o' e1 hx
  tups := fun c xs q => b.tups c xs (a.tups c xs q)
  frzs := fun c ob xs q => b.frzs c ob xs (a.frzs c ob xs q)
  tbls := fun c ps q => by
    obtain ⟨m1, e1⟩ := a.tbls c ps q
    obtain ⟨m2, e2⟩ := b.tbls c _ e1
    exact ⟨m1 ++ m2, by rw [e2, Array.append_assoc]⟩
theorem Un.kept (k : ∀ b u, h.get? b = some u → h'.get? b = some u) : Un fs ex H H h h' :=
  ⟨fun b ob q _ _ _ => k b ob q, fun b ob q _ _ _ => ⟨ob.slots, k b ob q⟩, fun _ _ _ n _ => n, fun b ob q _ => ⟨ob, k b ob q⟩, fun _ _ q => q, fun _ _ _ q => q, fun _ ps q => ⟨#[], by rw [q]; simp⟩⟩
theorem Un.refl : Un fs ex H H h h := Un.kept fun _ _ q => q
theorem Un.laid (k : ∀ b u, h.get? b = some u → h'.get? b = some u) (hp : h.objs.size ≤ a) (hn : H a = none) : Un fs ex H (upd H a o) h h' where
  keep := fun b u q _ _ _ => k b u q
  slot := fun b u q _ _ _ => ⟨u.slots, k b u q⟩
  free := fun b u q n _ => by rw [upd_ne (Nat.ne_of_lt (Nat.lt_of_lt_of_le (Heap.lt_size q) hp))]; exact n
  there := fun b u q _ => ⟨u, k b u q⟩
  tups := fun b xs q => by rw [upd_ne (ne_of_none q hn)]; exact q
  frzs := fun b u xs q => by rw [upd_ne (ne_of_none q hn)]; exact q
  tbls := fun b ps q => ⟨#[], by rw [upd_ne (ne_of_none q hn), q]; simp⟩
theorem Un.write (mu : Mut (H x)) (he : e = x ∨ H e = some (.own x)) (k : ∀ b u, b ≠ e → h.get? b = some u → h'.get? b = some u) (heo : ∃ u, h'.get? e = some u) : Un fs ex H (upd H x o) h h' := by
  have hx : ∀ b, H b = none → b ≠ x := fun b n z => by subst z; rw [n] at mu; exact mu
  have hb : ∀ b, H b = none → b ≠ e := fun b n z => by
    subst z
    rcases he with r | r
    · exact hx b n r
    · rw [n] at r; cases r
  have hm : ∀ b u, H b = some u → ¬ Mut (some u) → b ≠ x := fun b u q nm z => by subst z; rw [q] at mu; exact nm mu
  refine ⟨fun b u q n _ _ => k b u (hb b n) q, fun b u q n _ _ => ⟨u.slots, k b u (hb b n) q⟩, fun b u q n _ => by rw [upd_ne (hx b n)]; exact n, fun b u q _ => ?_,
    fun b xs q => by rw [upd_ne (hm b _ q fun z => z)]; exact q, fun b u xs q => by rw [upd_ne (hm b _ q fun z => z)]; exact q, fun b ps q => ⟨#[], by rw [upd_ne (hm b _ q fun z => z), q]; simp⟩⟩
  by_cases hbe : b = e
  · subst hbe; exact heo
  · exact ⟨u, k b u hbe q⟩
theorem Un.mono (u : Un fs ex H H1 h h1) (hs : ∀ b ∈ fs, b ∈ fs') (hx : ∀ b ∈ ex, b ∈ ex') : Un fs' ex' H H1 h h1 :=
  ⟨fun b ob q n hb he => u.keep b ob q n (fun z => hb (hs b z)) fun z => he (hx b z), fun _ _ q n _ he => u.any q n fun z => he (hx _ z), fun b ob q n he => u.free b ob q n fun z => he (hx b z), fun b ob q he => u.there b ob q fun z => he (hx b z), u.tups, u.frzs, u.tbls⟩
end

/-! ### the heap without what is tracked -/
def trk (h : Heap) (H : Hp) : List Addr := (List.range h.objs.size).filter fun a => (H a).isSome
def hidT (h : Heap) (H : Hp) : Heap := PySem.W.hideAll h (trk h H)
theorem hidT_size (h : Heap) (H : Hp) : (hidT h H).objs.size = h.objs.size := PySem.W.hideAll_size _ _
theorem hidT_get {h : Heap} {H : Hp} {b : Addr} {o : Obj} (e : h.get? b = some o) (n : H b = none) : (hidT h H).get? b = some o :=
  PySem.W.hideAll_get _ e fun hm => by
    have q : (H b).isSome = true := (List.mem_filter.mp hm).2
    rw [n] at q; simp at q
theorem of_hidT {h : Heap} {H : Hp} {b : Addr} {o : Obj} (e : (hidT h H).get? b = some o) : h.get? b = some o ∧ H b = none := by
  have e' : h.get? b = some o := PySem.W.of_hideAll (trk h H) e
  refine ⟨e', ?_⟩
  cases q : H b with
  | none => rfl
  | some x =>
    have hm : b ∈ trk h H := List.mem_filter.mpr ⟨List.mem_range.mpr (Heap.lt_size e'), by simp [q]⟩
    have z : (hidT h H).get? b = none := PySem.W.hideAll_none (trk h H) hm
    rw [z] at e; cases e

/-! ### OpenK's ledger, filled with every new object but one -/
def allNews (g h : Heap) (L : Addr) : List (Addr × Obj) := (List.range h.objs.size).filterMap fun a => if a = L ∨ (g.get? a).isSome = true then none else (h.get? a).map fun o => (a, o)
theorem mem_allNews {g h : Heap} {L a : Addr} {o : Obj} (h1 : a ≠ L) (h2 : g.get? a = none) (h3 : h.get? a = some o) : (a, o) ∈ allNews g h L :=
  List.mem_filterMap.mpr ⟨a, List.mem_range.mpr (Heap.lt_size h3), by simp [h1, h2, h3]⟩
theorem of_mem_allNews {g h : Heap} {L : Addr} {p : Addr × Obj} (hp : p ∈ allNews g h L) : p.1 ≠ L ∧ g.get? p.1 = none ∧ h.get? p.1 = some p.2 := by
  obtain ⟨b, _, e⟩ := List.mem_filterMap.mp hp
  split at e
  · cases e
  · rename_i hn
    cases q : h.get? b with
    | none => rw [q] at e; simp at e
    | some u =>
      rw [q] at e
      simp only [Option.map_some, Option.some.injEq] at e
      subst e
      refine ⟨fun z => hn (.inl z), ?_, q⟩
      show g.get? b = none
      cases r : g.get? b with
      | none => rfl
      | some v => exact (hn (.inr (by simp [r]))).elim
def rest (g h : Heap) (L d : Addr) : List (Addr × Obj) := (allNews g h L).filter fun p => decide (p.1 ≠ d)
theorem rest_ne {g h : Heap} {L d : Addr} : ∀ p ∈ rest g h L d, p.1 ≠ d := fun p hp => of_decide_eq_true (List.mem_filter.mp hp).2
theorem mem_rest {g h : Heap} {L d a : Addr} {o : Obj} (h1 : a ≠ L) (h2 : g.get? a = none) (h3 : h.get? a = some o) (h4 : a ≠ d) : (a, o) ∈ rest g h L d :=
  List.mem_filter.mpr ⟨mem_allNews h1 h2 h3, decide_eq_true h4⟩
theorem news_all {g h : Heap} {L : Addr} : News g L h (allNews g h L) := fun p hp => let ⟨a, b, c⟩ := of_mem_allNews hp; ⟨c, a, b⟩
theorem news_at {g h : Heap} {L d : Addr} {o : Obj} (h1 : d ≠ L) (h2 : g.get? d = none) (h3 : h.get? d = some o) : News g L h ((d, o) :: rest g h L d) := fun p hp => by
  rcases List.mem_cons.mp hp with rfl | hp
  · exact ⟨h3, h1, h2⟩
  · exact news_all p (List.mem_filter.mp hp).1
/-- behind a rule that changed d alone: all else but the frame is kept -/
theorem kept_of_news {g h h' : Heap} {L d : Addr} {m : Str → Option Value} (k : ∀ b o, g.get? b = some o → h.get? b = some o) (F : Fr g L h' m) (N : News g L h' (rest g h L d)) :
    ∀ b o, b ≠ L → b ≠ d → h.get? b = some o → h'.get? b = some o := fun b o h1 h2 e => by
  cases q : g.get? b with
  | some u =>
    have := k b u q
    rw [e] at this; cases this
    exact F.keep b _ q
  | none => exact (N (b, o) (mem_rest h1 q e h2)).1
end L2

namespace L2
open PySem PySem.Spec PyProof.Rows

/-- the module's facts, over the base: the heap at the law's entry without what is tracked there -/
structure Mod (K : PySem.W.Frag) (mg : Str → Option Value) (base : Heap) : Prop where
  kin : K.In base
  glob : base.Ns mainGlobals mg
  blt : ∃ mb, base.Ns builtinsNs mb ∧ ∀ x : Str, x ≠ "__name__" → mb x = bootBuiltins x
  nolimit : base.NoLimit

/-- the context: a def's body (or a comprehension's block) running. base: fixed through the whole law; s₀, H₀: the entry; outer: the frames whose slots others may change (a def's callers); stack: all frames that run;
   ex: iterators that were made ahead of the entry and are walked here (a comprehension's); fn: the names whose cells were made at the entry (a def: all; a comprehension's block: its own); calm: not within an except suite; pn: pins that every state bears; xe: what is wanted of an exception that leaves the code -/
structure Cx where
  prog : Program
  w : World
  K : PySem.W.Frag
  mg : Str → Option Value
  base : Heap
  A : Around
  N : List Str
  s₀ : Shared
  H₀ : Hp
  env : Env
  outer : List Env
  stack : List Env
  ex : List Addr
  fn : Str → Bool
  calm : Bool
  pn : List (Addr × Obj)
  xe : Value → Shared → Prop
/-- the callers' frames -/
def frs (l : List Env) : List Addr := l.filterMap (·.frame)
abbrev Cx.fs (X : Cx) : List Addr := frs X.outer

def Vis (sc : Scope) (x : Str) : Prop := sc.names.lookup x = some .local ∨ sc.names.lookup x = some .cell ∨ sc.names.lookup x = some .free
def Loc (sc : Scope) (x : Str) : Prop := sc.names.lookup x = some .local ∨ sc.names.lookup x = some .cell
def Look (env : Env) (h : Heap) (m : Str → Option Value) (x : Str) (u : Value) : Prop :=
  (env.kindOf x = some .local ∧ m x = some u) ∨ ((env.kindOf x = some .cell ∨ env.kindOf x = some .free) ∧ ∃ c, env.cells.lookup x = some c ∧ h.IsCell c (some u))

structure Cx.Ok (X : Cx) : Prop where
  mod : Mod X.K X.mg X.base
  kind : X.env.scope.kind = .function
  glob : X.env.globals = mainGlobals
  blt : X.env.builtins = builtinsNs
  above : X.s₀.heap.objs.size ≤ X.env.locals
  inj : ∀ x y c, X.env.cells.lookup x = some c → X.env.cells.lookup y = some c → x = y
  has : ∀ x, (X.env.kindOf x = some .cell ∨ X.env.kindOf x = some .free) → ∃ c, X.env.cells.lookup x = some c
  cab : ∀ x c, X.fn x = true → X.env.cells.lookup x = some c → X.s₀.heap.objs.size ≤ c
  hd : X.calm = true → X.A.handled = none
  frames : X.A.frames = some X.stack
  stk : X.stack = X.outer ∨ (X.stack = X.env :: X.outer ∧ X.env.frame = some X.env.locals)
  exf : ∀ b ∈ X.ex, b ≠ X.env.locals ∧ ∀ x c, X.env.cells.lookup x = some c → c ≠ b
  bs : ∀ b o, X.base.get? b = some o → X.s₀.heap.get? b = some o ∧ X.H₀ b = none
  bsz : X.base.objs.size ≤ X.s₀.heap.objs.size
  noex : ∀ b o, X.base.get? b = some o → b ∉ X.ex
  exfs : ∀ b ∈ X.ex, b ∉ X.fs
  funs : X.s₀.heap.FunFrames X.base X.outer
  frf : ∀ b ∈ X.fs, X.H₀ b = none

structure Inv (X : Cx) (pins : List (Addr × Obj)) (σ : List (Option V)) (H : Hp) (s : Shared) : Prop where
  ok : X.Ok
  os : s.os = X.s₀.os
  bare : AllBare s.gens
  base : Un X.fs X.ex X.H₀ H X.s₀.heap s.heap
  loc : ∃ m, s.heap.Ns X.env.locals m ∧ ∀ (i : Nat) (x : Str) (v : V), X.N[i]? = some x → σ[i]? = some (some v) → Vis X.env.scope x → ∃ u, RelV v u ∧ Look X.env s.heap m x u
  cell : ∀ x c, X.env.cells.lookup x = some c → ∃ v, s.heap.IsCell c v
  free : H X.env.locals = none
  freeC : ∀ x c, X.env.cells.lookup x = some c → H c = none
  pin : ∀ p ∈ X.pn ++ pins, s.heap.get? p.1 = some p.2 ∧ H p.1 = none ∧ p.1 ≠ X.env.locals ∧ p.1 ∉ X.fs ∧ ∀ v, p.2.data ≠ .cell v
  hok : HOk X.prog X.w H s.heap
  len : σ.length = X.N.length

section
variable {X : Cx} {pins : List (Addr × Obj)} {σ : List (Option V)} {H H' : Hp} {s : Shared} {h' : Heap}

theorem Cx.Ok.nofr (ok : X.Ok) {b : Addr} {o : Obj} (e : X.base.get? b = some o) : b ∉ X.fs := fun hb => by
  have := (ok.funs.mem hb).1
  rw [e] at this; cases this
theorem Inv.bs (I : Inv X pins σ H s) : ∀ b o, X.base.get? b = some o → s.heap.get? b = some o ∧ H b = none := fun b o e =>
  ⟨I.base.keep b o (I.ok.bs b o e).1 (I.ok.bs b o e).2 (I.ok.nofr e) (I.ok.noex b o e), I.base.free b o (I.ok.bs b o e).1 (I.ok.bs b o e).2 (I.ok.noex b o e)⟩
theorem Inv.bk (I : Inv X pins σ H s) : ∀ b o, X.base.get? b = some o → s.heap.get? b = some o := fun b o e => (I.bs b o e).1
theorem Inv.mod (I : Inv X pins σ H s) : Mod X.K X.mg X.base := I.ok.mod
theorem Inv.kIn (I : Inv X pins σ H s) : X.K.In s.heap := I.ok.mod.kin.keeps I.bk
theorem Inv.nolimit (I : Inv X pins σ H s) : s.heap.NoLimit := I.ok.mod.nolimit.keeps I.bk
/-- the frame over the base: for OpenK's rules (K.In X.base is I.mod.kin) -/
theorem Inv.fr (I : Inv X pins σ H s) : ∃ m, Fr X.base X.env.locals s.heap m :=
  let ⟨m, hn, _⟩ := I.loc
  ⟨m, hn, I.bk, Nat.le_trans I.ok.bsz I.ok.above⟩
theorem Inv.lt (I : Inv X pins σ H s) : X.env.locals < s.heap.objs.size := let ⟨_, hn, _⟩ := I.loc; hn.lt
theorem Inv.sz (I : Inv X pins σ H s) : X.s₀.heap.objs.size ≤ s.heap.objs.size := Nat.le_trans I.ok.above (Nat.le_of_lt I.lt)
theorem Inv.nofs (I : Inv X pins σ H s) {a : Addr} (h : s.heap.objs.size ≤ a) : a ∉ X.fs := fun hb => by
  obtain ⟨_, o, ho, _⟩ := I.ok.funs.mem hb
  exact absurd (Nat.lt_of_lt_of_le (Heap.lt_size ho) (Nat.le_trans I.sz h)) (Nat.lt_irrefl _)
theorem Inv.cne (I : Inv X pins σ H s) : ∀ x c, X.env.cells.lookup x = some c → c ≠ X.env.locals := fun x c e z => by
  obtain ⟨v, o, ho, hd⟩ := I.cell x c e
  obtain ⟨m, ⟨o', es, ep, ho', hd', _⟩, _⟩ := I.loc
  rw [z, ho'] at ho; cases ho; rw [hd'] at hd; cases hd
theorem Inv.funs (I : Inv X pins σ H s) : s.heap.FunFrames X.base X.outer := by
  have all : ∀ (l : List Env), (∀ b ∈ frs l, b ∈ X.fs) → X.s₀.heap.FunFrames X.base l → s.heap.FunFrames X.base l := by
    intro l
    induction l with
    | nil => intro _ _; trivial
    | cons env r ih =>
      intro hs hl
      obtain ⟨hk, ⟨L, o, hf, hn, ho, hd⟩, hr⟩ := hl
      have hL : L ∈ X.fs := hs L (by unfold frs; rw [List.filterMap_cons, hf]; exact List.mem_cons_self)
      obtain ⟨sl, e⟩ := I.base.slot L o ho (I.ok.frf L hL) hL fun z => I.ok.exfs L z hL
      exact ⟨hk, ⟨L, _, hf, hn, e, hd⟩, ih (fun b hb => hs b (by unfold frs; rw [List.filterMap_cons, hf]; exact List.mem_cons_of_mem _ hb)) hr⟩
  exact all X.outer (fun _ hb => hb) I.ok.funs

/-- the frames that run, for a call -/
theorem Inv.stack (I : Inv X pins σ H s) : s.heap.FunFrames X.base X.stack := by
  rcases I.ok.stk with e | ⟨e, hf⟩
  · rw [e]; exact I.funs
  · rw [e]
    obtain ⟨m, hn, _⟩ := I.loc
    refine .cons (by rw [I.ok.kind]; decide) hf hn ?_ I.funs
    exact Heap.get?_none_of_le (Nat.le_trans I.ok.bsz I.ok.above)
theorem Inv.stkSub (I : Inv X pins σ H s) : ∀ b ∈ frs X.stack, b ∈ X.env.locals :: X.fs := fun b hb => by
  rcases I.ok.stk with e | ⟨e, hf⟩
  · rw [e] at hb; exact List.mem_cons_of_mem _ hb
  · rw [e] at hb
    unfold frs at hb
    rw [List.filterMap_cons, hf] at hb
    exact hb
theorem Inv.stkFree (I : Inv X pins σ H s) : ∀ b ∈ frs X.stack, H b = none := fun b hb => by
  rcases List.mem_cons.mp (I.stkSub b hb) with e | hb
  · rw [e]; exact I.free
  · obtain ⟨_, o, ho, _⟩ := I.ok.funs.mem hb
    exact I.base.free b o ho (I.ok.frf b hb) fun z => I.ok.exfs b z hb

/-- THE STEP: the untracked objects but the frame and the records at ch are kept (the callers' frames up to slots), the frame's map is kept, the new abstract heap is held -/
theorem Inv.step {g' : Array GenState} {t' : Nat} {d' : Drawn} {ch : List Addr} (I : Inv X pins σ H s)
    (hch : ∀ b ∈ ch, (b ∈ X.ex ∨ X.s₀.heap.objs.size ≤ b) ∧ b ≠ X.env.locals ∧ (∀ x c, X.env.cells.lookup x = some c → c ≠ b) ∧ ∀ p ∈ X.pn ++ pins, p.1 ≠ b)
    (keep : ∀ b o, b ≠ X.env.locals → b ∉ X.fs → b ∉ ch → s.heap.get? b = some o → H b = none → h'.get? b = some o)
    (slot : ∀ b o, b ≠ X.env.locals → b ∈ X.fs → b ∉ ch → s.heap.get? b = some o → H b = none → ∃ sl, h'.get? b = some { o with slots := sl }) (free : ∀ b o, b ∉ ch → s.heap.get? b = some o → H b = none → H' b = none)
    (there : ∀ b o, b ∉ ch → s.heap.get? b = some o → ∃ o', h'.get? b = some o')
    (tups : ∀ b xs, H b = some (.tup xs) → H' b = some (.tup xs)) (frzs : ∀ b o u, H b = some (.frz o u) → H' b = some (.frz o u)) (tbls : ∀ b ps, H b = some (.tbl ps) → ∃ more, H' b = some (.tbl (ps ++ more)))
    (ns : ∀ m, s.heap.Ns X.env.locals m → h'.Ns X.env.locals m) (hok : HOk X.prog X.w H' h') (hg : AllBare g') :
    Inv X pins σ H' { s with heap := h', gens := g', drawn := d', toks := t' } := by
  have neL : ∀ b o, X.s₀.heap.get? b = some o → b ≠ X.env.locals := fun b o e => Nat.ne_of_lt (Nat.lt_of_lt_of_le (Heap.lt_size e) I.ok.above)
  have neC : ∀ b o, X.s₀.heap.get? b = some o → b ∉ X.ex → b ∉ ch := fun b o e hx hb => by
    rcases (hch b hb).1 with z | z
    · exact hx z
    · exact absurd (Nat.lt_of_lt_of_le (Heap.lt_size e) z) (Nat.lt_irrefl _)
  have cellK : ∀ x c, X.env.cells.lookup x = some c → ∀ v, s.heap.IsCell c v → h'.IsCell c v := fun x c e v ⟨o, ho, hd⟩ => by
    have nch : c ∉ ch := fun z => (hch c z).2.2.1 x c e rfl
    by_cases hc : c ∈ X.fs
    · obtain ⟨sl, q⟩ := slot c o (I.cne x c e) hc nch ho (I.freeC x c e)
      exact ⟨_, q, hd⟩
    · exact ⟨o, keep c o (I.cne x c e) hc nch ho (I.freeC x c e), hd⟩
  refine ⟨I.ok, I.os, hg, ⟨fun b o e n hb hx => ?_, fun b o e n hb hx => ?_, fun b o e n hx => ?_, fun b o e hx => ?_, fun b xs e => tups b xs (I.base.tups b xs e), fun b o xs e => frzs b o xs (I.base.frzs b o xs e), fun b ps e => ?_⟩, ?_, fun x c e => ?_, ?_, fun x c e => ?_, fun p hp => ?_, hok, I.len⟩
  · exact keep b o (neL b o e) hb (neC b o e hx) (I.base.keep b o e n hb hx) (I.base.free b o e n hx)
  · obtain ⟨sl, e1⟩ := I.base.slot b o e n hb hx
    obtain ⟨sl', e2⟩ := slot b _ (neL b o e) hb (neC b o e hx) e1 (I.base.free b o e n hx)
    exact ⟨sl', e2⟩
  · obtain ⟨o', e1⟩ := I.base.there b o e hx
    exact free b o' (neC b o e hx) e1 (I.base.free b o e n hx)
  · obtain ⟨o', e1⟩ := I.base.there b o e hx
    exact there b o' (neC b o e hx) e1
  · obtain ⟨m1, e1⟩ := I.base.tbls b ps e
    obtain ⟨m2, e2⟩ := tbls b _ e1
    exact ⟨m1 ++ m2, by rw [e2, Array.append_assoc]⟩
  · obtain ⟨m, hn, hl⟩ := I.loc
    refine ⟨m, ns m hn, fun i x v e1 e2 e3 => ?_⟩
    obtain ⟨u, r, l⟩ := hl i x v e1 e2 e3
    refine ⟨u, r, ?_⟩
    rcases l with l | ⟨k, c, e, z⟩
    · exact .inl l
    · exact .inr ⟨k, c, e, cellK x c e _ z⟩
  · obtain ⟨v, z⟩ := I.cell x c e
    exact ⟨v, cellK x c e v z⟩
  · obtain ⟨m, ⟨o, _, _, ho, _⟩, _⟩ := I.loc
    exact free _ o (fun z => (hch _ z).2.1 rfl) ho I.free
  · obtain ⟨v, o, ho, hd⟩ := I.cell x c e
    exact free c o (fun z => (hch c z).2.2.1 x c e rfl) ho (I.freeC x c e)
  · obtain ⟨e, n, ne, nf, d⟩ := I.pin p hp
    have nch : p.1 ∉ ch := fun z => (hch p.1 z).2.2.2 p hp rfl
    exact ⟨keep p.1 p.2 ne nf nch e n, free p.1 p.2 nch e n, ne, nf, d⟩
/-- .. where the frame's own object is kept too -/
theorem Inv.un {t' : Nat} (I : Inv X pins σ H s) (u : Un X.fs [] H H' s.heap h') (hok : HOk X.prog X.w H' h') : Inv X pins σ H' { s with heap := h', toks := t' } := by
  obtain ⟨m, ⟨o, es, ep, ho, r⟩, _⟩ := id I.loc
  obtain ⟨sl, hL⟩ := u.any ho I.free (by simp)
  exact I.step (g' := s.gens) (d' := s.drawn) (ch := []) (fun _ z => nomatch z) (fun b o _ hb _ e n => u.keep b o e n hb (by simp)) (fun b o _ hb _ e n => u.slot b o e n hb (by simp)) (fun b o _ e n => u.free b o e n (by simp)) (fun b o _ e => u.there b o e (by simp)) u.tups u.frzs u.tbls (fun m' hm => by
    obtain ⟨o', es', ep', ho', r'⟩ := hm
    rw [ho] at ho'; cases ho'
    exact ⟨_, es', ep', hL, r'⟩) hok I.bare
/-- behind a call (or a comprehension's block): the slots of this frame may have changed too, the records at ch may have turned -/
theorem Inv.call {g' : Array GenState} {t' : Nat} {d' : Drawn} {ch : List Addr} (I : Inv X pins σ H s) (u : Un (frs X.stack) ch H H' s.heap h') (hok : HOk X.prog X.w H' h') (hg : AllBare g')
    (hch : ∀ b ∈ ch, (b ∈ X.ex ∨ X.s₀.heap.objs.size ≤ b) ∧ b ≠ X.env.locals ∧ (∀ x c, X.env.cells.lookup x = some c → c ≠ b) ∧ ∀ p ∈ X.pn ++ pins, p.1 ≠ b) :
    Inv X pins σ H' { s with heap := h', gens := g', drawn := d', toks := t' } := by
  obtain ⟨m, ⟨o, es, ep, ho, r⟩, _⟩ := id I.loc
  obtain ⟨sl, hL⟩ := u.any ho I.free fun z => (hch _ z).2.1 rfl
  exact I.step (ch := ch) hch (fun b o hL hb hc e n => u.keep b o e n (fun z => (List.mem_cons.mp (I.stkSub b z)).elim hL hb) hc) (fun b o _ _ hc e n => u.any e n hc) (fun b o hc e n => u.free b o e n hc) (fun b o hc e => u.there b o e hc) u.tups u.frzs u.tbls (fun m' hm => by
    obtain ⟨o', es', ep', ho', r'⟩ := hm
    rw [ho] at ho'; cases ho'
    exact ⟨_, es', ep', hL, r'⟩) hok hg
/-- an untracked record of ours (an iterator) has turned -/
theorem Inv.turned {t' : Nat} {it : Addr} (I : Inv X pins σ H s) (k : ∀ b o, b ≠ it → s.heap.get? b = some o → h'.get? b = some o) (hn : H it = none) (hL : it ≠ X.env.locals)
    (h1 : it ∈ X.ex ∨ X.s₀.heap.objs.size ≤ it) (h2 : ∀ x c, X.env.cells.lookup x = some c → c ≠ it) (h3 : ∀ p ∈ X.pn ++ pins, p.1 ≠ it) : Inv X pins σ H { s with heap := h', toks := t' } := by
  have nit : ∀ b u, H b = some u → b ≠ it := fun b u e z => by rw [z, hn] at e; cases e
  refine I.step (g' := s.gens) (d' := s.drawn) (ch := [it]) (fun b hb => ?_) (fun b o _ _ hc e _ => k b o (fun z => hc (by simp [z])) e) (fun b o _ _ hc e _ => ⟨o.slots, k b o (fun z => hc (by simp [z])) e⟩) (fun _ _ _ _ n => n)
    (fun b o hc e => ⟨o, k b o (fun z => hc (by simp [z])) e⟩) (fun _ _ e => e) (fun _ _ _ e => e) (fun b ps e => ⟨#[], by rw [e]; simp⟩) (fun m hm => ?_) (fun b u e => ?_) I.bare
  · have e : b = it := by simpa using hb
    subst e
    exact ⟨h1, hL, h2, h3⟩
  · obtain ⟨o, es, ep, ho, r⟩ := hm
    exact ⟨o, es, ep, k _ o (Ne.symm hL) ho, r⟩
  · refine (I.hok b u e).stay (fun c v hc q => k c v ?_ q) (fun _ q => q) fun _ _ q => q
    rcases hc with z | z
    · rw [z]; exact nit b u e
    · exact nit c _ z
theorem Inv.tok (I : Inv X pins σ H s) (t : Nat) : Inv X pins σ H { s with toks := t } := I.un (h' := s.heap) (t' := t) Un.refl I.hok
/-- all objects kept -/
theorem Inv.kept {t' : Nat} (I : Inv X pins σ H s) (k : ∀ b u, s.heap.get? b = some u → h'.get? b = some u) : Inv X pins σ H { s with heap := h', toks := t' } := I.un (Un.kept k) (I.hok.kept k)
/-- a new object laid and tracked -/
theorem Inv.laid {a : Addr} {o : HO} {t' : Nat} (I : Inv X pins σ H s) (k : ∀ b u, s.heap.get? b = some u → h'.get? b = some u) (hp : s.heap.objs.size ≤ a) (new : ObjOk X.prog X.w (upd H a o) h' a o) :
    Inv X pins σ (upd H a o) { s with heap := h', toks := t' } := I.un (Un.laid k hp (I.hok.fresh hp)) (I.hok.laid k hp new)
/-- an object written -/
theorem Inv.write {x e : Addr} {o : HO} {t' : Nat} (I : Inv X pins σ H s) (mu : Mut (H x)) (he : e = x ∨ H e = some (.own x)) (k : ∀ b u, b ≠ e → s.heap.get? b = some u → h'.get? b = some u) (heo : ∃ u, h'.get? e = some u)
    (new : ObjOk X.prog X.w (upd H x o) h' x o) : Inv X pins σ (upd H x o) { s with heap := h', toks := t' } := I.un (Un.write mu he k heo) (I.hok.write mu he k heo new)
/-- forgetting slots, pins -/
theorem Inv.weak {σ' : List (Option V)} (I : Inv X pins σ H s) (hl : σ'.length = σ.length) (w : ∀ (i : Nat) v, σ'[i]? = some (some v) → σ[i]? = some (some v)) : Inv X pins σ' H s :=
  ⟨I.ok, I.os, I.bare, I.base, let ⟨m, hn, hl'⟩ := I.loc; ⟨m, hn, fun i x v e1 e2 e3 => hl' i x v e1 (w i v e2) e3⟩, I.cell, I.free, I.freeC, I.pin, I.hok, hl.trans I.len⟩
theorem Inv.pins_of {pins' : List (Addr × Obj)} (I : Inv X pins σ H s) (h : ∀ p ∈ pins', s.heap.get? p.1 = some p.2 ∧ H p.1 = none ∧ p.1 ≠ X.env.locals ∧ p.1 ∉ X.fs ∧ ∀ v, p.2.data ≠ .cell v) : Inv X pins' σ H s :=
  ⟨I.ok, I.os, I.bare, I.base, I.loc, I.cell, I.free, I.freeC, fun p hp => (List.mem_append.mp hp).elim (fun z => I.pin p (List.mem_append_left _ z)) (h p), I.hok, I.len⟩

theorem nodup_ix {N : List Str} (hN : N.Nodup) {i j : Nat} {x : Str} (a : N[i]? = some x) (b : N[j]? = some x) : i = j := by
  obtain ⟨h1, e1⟩ := List.getElem?_eq_some_iff.mp a
  obtain ⟨h2, e2⟩ := List.getElem?_eq_some_iff.mp b
  exact (List.getElem_inj hN).mp (e1.trans e2.symm)

/-- a name is stored; what changed -/
theorem store_ok2 {M : Model} {A : Around} {E : Value → Shared → Prop} {i : Nat} {x : Str} {v : V} {u : Value} {Q : Unit → Shared → Prop} (I : Inv X pins σ H s) (hN : X.N.Nodup) (hi : X.N[i]? = some x) (hx : Loc X.env.scope x) (r : RelV v u)
    (h : ∀ s', Inv X pins (σ.set i (some v)) H s' → (∃ a, Heap.SameBut a s.heap s'.heap ∧ (a = X.env.locals ∨ X.env.cells.lookup x = some a)) → Q () s') (hf : X.fn x = true ∨ X.env.scope.names.lookup x = some .local := by first | exact .inl rfl | exact .inr rfl | assumption) : wpAny M A (storeName X.env x u) Q E s := by
  obtain ⟨m, hn, hl⟩ := id I.loc
  have hcls : (X.env.scope.kind == .class || (X.env.scope.kind == .module && X.env.locals != X.env.globals)) = false := by rw [I.ok.kind]; rfl
  have hiσ : i < σ.length := by rw [I.len]; exact (List.getElem?_eq_some_iff.mp hi).1
  have cne := I.cne
  have tracked : ∀ {a : Addr} {h' : Heap}, (∃ o, s.heap.get? a = some o ∧ H a = none) → Heap.SameBut a s.heap h' → HOk X.prog X.w H h' := fun {a h'} ha hs b ob e => by
    obtain ⟨_, _, hfree⟩ := ha
    refine (I.hok b ob e).stay (fun c w' hc q => (hs.2 c ?_).trans q) (fun _ q => q) fun _ _ q => q
    rintro rfl
    rcases hc with rfl | hc
    · rw [hfree] at e; cases e
    · rw [hfree] at hc; cases hc
  rcases hx with hk | hk
  · refine wpAny_storeName_local hk hn (fun h' hn' hs => ?_) hcls
    obtain ⟨oL, _, _, hoL, _⟩ := id hn
    refine h _ ⟨I.ok, I.os, I.bare, ⟨fun b o e n hb hx => ?_, fun b o e n hb hx => ?_, I.base.free, fun b o e hx => ?_, I.base.tups, I.base.frzs, I.base.tbls⟩, ⟨_, hn', fun j y v' e1 e2 e3 => ?_⟩, fun y c e => ?_, I.free, I.freeC, fun p hp => ?_, tracked ⟨oL, hoL, I.free⟩ hs, by simpa using I.len⟩ ⟨_, hs, .inl rfl⟩
    · exact (hs.2 b (Nat.ne_of_lt (Nat.lt_of_lt_of_le (Heap.lt_size e) I.ok.above))).trans (I.base.keep b o e n hb hx)
    · obtain ⟨sl, e1⟩ := I.base.slot b o e n hb hx
      exact ⟨sl, (hs.2 b (Nat.ne_of_lt (Nat.lt_of_lt_of_le (Heap.lt_size e) I.ok.above))).trans e1⟩
    · obtain ⟨o', e1⟩ := I.base.there b o e hx
      exact ⟨o', (hs.2 b (Nat.ne_of_lt (Nat.lt_of_lt_of_le (Heap.lt_size e) I.ok.above))).trans e1⟩
    · by_cases hj : j = i
      · subst hj
        rw [hi] at e1; cases e1
        rw [List.getElem?_set_self hiσ] at e2
        cases e2
        exact ⟨u, r, .inl ⟨hk, by simp⟩⟩
      · rw [List.getElem?_set_ne (Ne.symm hj)] at e2
        obtain ⟨u', r', q⟩ := hl j y v' e1 e2 e3
        refine ⟨u', r', ?_⟩
        rcases q with ⟨k, e⟩ | ⟨k, c, e, z⟩
        · refine .inl ⟨k, ?_⟩
          have : y ≠ x := fun e => hj (nodup_ix hN e1 (e ▸ hi))
          simp [this, e]
        · exact .inr ⟨k, c, e, z.sameBut hs (cne y c e)⟩
    · obtain ⟨w', z⟩ := I.cell y c e
      exact ⟨w', z.sameBut hs (cne y c e)⟩
    · obtain ⟨e, n, ne, nf, d⟩ := I.pin p hp
      exact ⟨(hs.2 p.1 ne).trans e, n, ne, nf, d⟩
  · have hfn : X.fn x = true := by
      rcases hf with z | z
      · exact z
      · rw [z] at hk; cases hk
    obtain ⟨c, hc⟩ := I.ok.has x (.inl hk)
    obtain ⟨w', z⟩ := I.cell x c hc
    refine wpAny_storeName_cell I.ok.kind hk hc z (fun h' hc' hs => ?_)
    obtain ⟨oc, hoc, hocd⟩ := id z
    refine h { s with heap := h' } ⟨I.ok, I.os, I.bare, ⟨fun b o e n hb hx => ?_, fun b o e n hb hx => ?_, I.base.free, fun b o e hx => ?_, I.base.tups, I.base.frzs, I.base.tbls⟩, ⟨m, hn.sameBut hs (Ne.symm (cne x c hc)), fun j y v' e1 e2 e3 => ?_⟩, fun y c' e => ?_, I.free, I.freeC, fun p hp => ?_, tracked ⟨oc, hoc, I.freeC x c hc⟩ hs, by simpa using I.len⟩ ⟨c, hs, .inr hc⟩
    · exact (hs.2 b (Nat.ne_of_lt (Nat.lt_of_lt_of_le (Heap.lt_size e) (I.ok.cab x c hfn hc)))).trans (I.base.keep b o e n hb hx)
    · obtain ⟨sl, e1⟩ := I.base.slot b o e n hb hx
      exact ⟨sl, (hs.2 b (Nat.ne_of_lt (Nat.lt_of_lt_of_le (Heap.lt_size e) (I.ok.cab x c hfn hc)))).trans e1⟩
    · obtain ⟨o', e1⟩ := I.base.there b o e hx
      exact ⟨o', (hs.2 b (Nat.ne_of_lt (Nat.lt_of_lt_of_le (Heap.lt_size e) (I.ok.cab x c hfn hc)))).trans e1⟩
    · by_cases hj : j = i
      · subst hj
        rw [hi] at e1; cases e1
        rw [List.getElem?_set_self hiσ] at e2
        cases e2
        exact ⟨u, r, .inr ⟨.inl hk, c, hc, hc'⟩⟩
      · rw [List.getElem?_set_ne (Ne.symm hj)] at e2
        obtain ⟨u', r', q⟩ := hl j y v' e1 e2 e3
        refine ⟨u', r', ?_⟩
        rcases q with q | ⟨k, c', e, z'⟩
        · exact .inl q
        · refine .inr ⟨k, c', e, z'.sameBut hs ?_⟩
          rintro rfl
          exact hj (nodup_ix hN e1 (I.ok.inj _ _ _ e hc ▸ hi))
    · by_cases hcc : c' = c
      · subst hcc; exact ⟨_, hc'⟩
      · obtain ⟨w2, z2⟩ := I.cell y c' e
        exact ⟨w2, z2.sameBut hs hcc⟩
    · obtain ⟨e, n, ne, nf, d⟩ := I.pin p hp
      refine ⟨(hs.2 p.1 ?_).trans e, n, ne, nf, d⟩
      intro q
      rw [q, hoc] at e
      have q' : oc = p.2 := Option.some.inj e
      exact d w' (by rw [← q']; exact hocd)
theorem store_ok {M : Model} {A : Around} {E : Value → Shared → Prop} {i : Nat} {x : Str} {v : V} {u : Value} {Q : Unit → Shared → Prop} (I : Inv X pins σ H s) (hN : X.N.Nodup) (hi : X.N[i]? = some x) (hx : Loc X.env.scope x) (r : RelV v u)
    (h : ∀ s', Inv X pins (σ.set i (some v)) H s' → Q () s') (hf : X.fn x = true ∨ X.env.scope.names.lookup x = some .local := by first | exact .inl rfl | exact .inr rfl | assumption) : wpAny M A (storeName X.env x u) Q E s :=
  store_ok2 I hN hi hx r (fun s' I' _ => h s' I') hf
/-- behind a call or a block, the state as it is -/
theorem Inv.call' {s' : Shared} {ch : List Addr} (I : Inv X pins σ H s) (ho : s'.os = s.os) (u : Un (frs X.stack) ch H H' s.heap s'.heap) (hok : HOk X.prog X.w H' s'.heap) (hg : AllBare s'.gens)
    (hch : ∀ b ∈ ch, (b ∈ X.ex ∨ X.s₀.heap.objs.size ≤ b) ∧ b ≠ X.env.locals ∧ (∀ x c, X.env.cells.lookup x = some c → c ≠ b) ∧ ∀ p ∈ X.pn ++ pins, p.1 ≠ b) : Inv X pins σ H' s' := by
  obtain ⟨h', g', d', t', o'⟩ := s'
  have e : o' = s.os := ho
  subst e
  exact I.call (g' := g') (t' := t') (d' := d') u hok hg hch
end

/-! ### the judgements -/
/-- an exception: its class, its own dict's address (where it has one), the abstract heap behind it -/
abbrev XK := Value → Option Addr → Hp → Prop
abbrev St := List (Option V)
abbrev VK := V → Hp → Prop
/-- an expression's reading; a test's; an argument list's -/
abbrev TE := St → Hp → VK → Prop
abbrev TT := St → Hp → (Bool → Hp → Prop) → Prop
abbrev TA := St → Hp → (List V → Hp → Prop) → Prop
/-- what is wanted behind a statement -/
structure Ends where
  nx : St → Hp → Prop
  rt : VK
  bk : St → Hp → Prop := fun _ _ => False
  ct : St → Hp → Prop := fun _ _ => False
abbrev TS := Ends → St → Hp → Prop

def EP (X : Cx) (pins : List (Addr × Obj)) (σ : St) (Q : VK) (u : Value) (s' : Shared) : Prop := ∃ v H', Inv X pins σ H' s' ∧ RelV v u ∧ Q v H'
def TP (X : Cx) (pins : List (Addr × Obj)) (σ : St) (Q : Bool → Hp → Prop) (b : Bool) (s' : Shared) : Prop := ∃ H', Inv X pins σ H' s' ∧ Q b H'
def AP (X : Cx) (pins : List (Addr × Obj)) (σ : St) (Q : List V → Hp → Prop) (us : List Value) (s' : Shared) : Prop := ∃ vs H', Inv X pins σ H' s' ∧ Vals vs us ∧ Q vs H'
def SP (X : Cx) (pins : List (Addr × Obj)) (D : Ends) (f : Flow) (s' : Shared) : Prop :=
  match f with
  | .next => ∃ σ' H', Inv X pins σ' H' s' ∧ D.nx σ' H'
  | .brk => ∃ σ' H', Inv X pins σ' H' s' ∧ D.bk σ' H'
  | .cont => ∃ σ' H', Inv X pins σ' H' s' ∧ D.ct σ' H'
  | .ret u => ∃ v σ' H', Inv X pins σ' H' s' ∧ RelV v u ∧ D.rt v H'

def PE (X : Cx) (e : Expr) (t : TE) : Prop :=
  ∀ (pins : List (Addr × Obj)) (s : Shared) (σ : St) (H : Hp) (Q : VK), Inv X pins σ H s → t σ H Q → wpAny (model X.prog X.w) X.A (eval e X.env) (EP X pins σ Q) X.xe s
def PT (X : Cx) (e : Expr) (t : TT) : Prop :=
  ∀ (pins : List (Addr × Obj)) (s : Shared) (σ : St) (H : Hp) (Q : Bool → Hp → Prop), Inv X pins σ H s → t σ H Q → wpAny (model X.prog X.w) X.A (isTrue e X.env (eval e X.env)) (TP X pins σ Q) X.xe s
/-- a test whatever its 'whole' is (and, or) -/
def PW (X : Cx) (e : Expr) (t : TT) : Prop :=
  ∀ (whole : Sem Value) (pins : List (Addr × Obj)) (s : Shared) (σ : St) (H : Hp) (Q : Bool → Hp → Prop), Inv X pins σ H s → t σ H Q → wpAny (model X.prog X.w) X.A (isTrue e X.env whole) (TP X pins σ Q) X.xe s
theorem PW.pt {X : Cx} {e : Expr} {t : TT} (h : PW X e t) : PT X e t := h _
/-- an argument list (no star), from the left -/
def PA (X : Cx) (es : List Expr) (t : TA) : Prop :=
  ∀ (pos : Pos) (pins : List (Addr × Obj)) (s : Shared) (σ : St) (H : Hp) (Q : List V → Hp → Prop), Inv X pins σ H s → t σ H Q → wpAny (model X.prog X.w) X.A (spliced (backTo pos (starEach es X.env))) (AP X pins σ Q) X.xe s
def PS (X : Cx) (st : Stmt) (t : TS) : Prop :=
  ∀ (pins : List (Addr × Obj)) (s : Shared) (σ : St) (H : Hp) (D : Ends), Inv X pins σ H s → t D σ H → wpAny (model X.prog X.w) X.A (exec st X.env) (SP X pins D) X.xe s
def PSs (X : Cx) (st : List Stmt) (t : TS) : Prop :=
  ∀ (pins : List (Addr × Obj)) (s : Shared) (σ : St) (H : Hp) (D : Ends), Inv X pins σ H s → t D σ H → wpAny (model X.prog X.w) X.A (execs st X.env) (SP X pins D) X.xe s
/-- weaken the end -/
theorem thn {α : Type} {t : Sem α} {Q Q' : α → Shared → Prop} {M : Model} {A : Around} {E : Value → Shared → Prop} {s : Shared} (h : wpAny M A t Q E s) (hQ : ∀ a s, Q a s → Q' a s) : wpAny M A t Q' E s := wpAny_mono h hQ fun _ _ x => x
end L2

namespace L2
open PySem PySem.Spec PyProof.Rows
section
variable {X : Cx}

/-- two expressions in a row -/
theorem bin {a b : Expr} {ta tb : TE} (ha : PE X a ta) (hb : PE X b tb) {pins : List (Addr × Obj)} {s : Shared} {σ : St} {H : Hp} {R : V → V → Hp → Prop} (I : Inv X pins σ H s) (h : ta σ H fun x H1 => tb σ H1 fun y H2 => R x y H2)
    {α : Type} {Q : α → Shared → Prop} {f : Value → Value → Sem α}
    (hf : ∀ v u s2 x y H2, Inv X pins σ H2 s2 → RelV x v → RelV y u → R x y H2 → wpAny (model X.prog X.w) X.A (f v u) Q X.xe s2) :
    wpAny (model X.prog X.w) X.A (eval a X.env) (fun v s₁ => wpAny (model X.prog X.w) X.A (eval b X.env) (fun u s₂ => wpAny (model X.prog X.w) X.A (f v u) Q X.xe s₂) X.xe s₁) X.xe s := by
  refine thn (ha pins s σ H _ I h) fun v s1 ⟨x, H1, I1, r1, q1⟩ => ?_
  refine thn (hb pins s1 σ H1 _ I1 q1) fun u s2 ⟨y, H2, I2, r2, q2⟩ => ?_
  exact hf v u s2 x y H2 I2 r1 r2 q2

/-! ### names and constants -/
def tVar (i : Nat) : TE := fun σ H Q => ∃ v, σ[i]? = some (some v) ∧ Q v H
def tC (v : V) : TE := fun _ H Q => Q v H
theorem pe_var {i : Nat} {x : Str} {pos : Pos} (hN : X.N[i]? = some x) (hv : Vis X.env.scope x) (hd : (x == ("__debug__" : Str)) = false := by decide) (hcd : (x == ("__classdict__" : Str)) = false := by decide) : PE X (.Name x pos) (tVar i) := by
  intro pins s σ H Q I h
  obtain ⟨v, e, h⟩ := h
  obtain ⟨m, hn, hl⟩ := I.loc
  obtain ⟨u, r, l⟩ := hl i x v hN e hv
  have fin : EP X pins σ Q u s := ⟨v, H, I, r, h⟩
  rcases l with ⟨hk, hm⟩ | ⟨hk, c, hc, hcell⟩
  · exact wpAny_Name (wpAny_loadName_local I.ok.kind hk hn hm fin) hd
  · rcases hk with hk | hk
    · exact wpAny_Name (wpAny_loadName_cell I.ok.kind hk hc hcell fin) hd
    · exact wpAny_Name (wpAny_loadName_free I.ok.kind hk hc hcell fin hcd) hd
theorem pe_int {i j pos} : PE X (.Constant (.int i) j pos) (tC (.int i)) := fun _ _ _ H _ I h => wpAny_Constant_int ⟨.int i, H, I.tok _, ⟨_, rfl⟩, h⟩
theorem pe_bl {b j pos} : PE X (.Constant (.bool b) j pos) (tC (.bl b)) := fun _ _ _ H _ I h => Constant_bool ⟨.bl b, H, I, rfl, h⟩
theorem pe_non {j pos} : PE X (.Constant .none j pos) (tC .non) := fun _ _ _ H _ I h => Constant_none ⟨.non, H, I, rfl, h⟩
theorem pe_str {x j pos} : PE X (.Constant (.str x) j pos) (tC (.str x)) := fun _ _ _ H _ I h => Calls.Constant_str ⟨.str x, H, I.tok _, ⟨_, rfl⟩, h⟩

/-- a global name of the def -/
def Gl (X : Cx) (x : Str) : Prop := X.env.kindOf x = some .globalImplicit
theorem ld_glob {E : Value → Shared → Prop} {pins : List (Addr × Obj)} {s : Shared} {σ : St} {H : Hp} {x : Str} {u : Value} {pos : Pos} {Q : Value → Shared → Prop} (I : Inv X pins σ H s) (hg : Gl X x) (hm : X.mg x = some u) (h : Q u s)
    (hd : (x == ("__debug__" : Str)) = false := by decide) : wpAny (model X.prog X.w) X.A (eval (.Name x pos) X.env) Q E s :=
  Calls.Name_function_global I.ok.kind hg (Calls.loadGlobal_global (by rw [I.ok.glob]; exact I.mod.glob.keeps I.bk) hm h) hd
theorem ld_blt {E : Value → Shared → Prop} {pins : List (Addr × Obj)} {s : Shared} {σ : St} {H : Hp} {x : Str} {u : Value} {pos : Pos} {Q : Value → Shared → Prop} (I : Inv X pins σ H s) (hg : Gl X x) (hm : X.mg x = none) (hv : bootBuiltins x = some u) (h : Q u s)
    (hn : x ≠ "__name__" := by decide) (hd : (x == ("__debug__" : Str)) = false := by decide) : wpAny (model X.prog X.w) X.A (eval (.Name x pos) X.env) Q E s := by
  obtain ⟨mb, h1, h2⟩ := I.mod.blt
  exact Calls.Name_function_global I.ok.kind hg (Calls.loadGlobal_builtin (by rw [I.ok.glob]; exact I.mod.glob.keeps I.bk) hm (by rw [I.ok.blt]; exact h1.keeps I.bk) ((h2 x hn).trans hv) h) hd
/-- a module's constant, a class, a function, as a value -/
theorem pe_glob {x : Str} {v : V} {u : Value} {pos : Pos} (hg : Gl X x) (hm : X.mg x = some u) (r : RelV v u) (hd : (x == ("__debug__" : Str)) = false := by decide) : PE X (.Name x pos) (tC v) :=
  fun _ _ _ H _ I h => ld_glob I hg hm ⟨v, H, I, r, h⟩ hd
theorem pe_bltn {x : Str} {v : V} {u : Value} {pos : Pos} (hg : Gl X x) (hm : X.mg x = none) (hv : bootBuiltins x = some u) (r : RelV v u) (hn : x ≠ "__name__" := by decide) (hd : (x == ("__debug__" : Str)) = false := by decide) : PE X (.Name x pos) (tC v) :=
  fun _ _ _ H _ I h => ld_blt I hg hm hv ⟨v, H, I, r, h⟩ hn hd

/-! ### arithmetic -/
/-- two ints -/
def t2I (ta tb : TE) (k : Int → Int → Hp → Prop) : St → Hp → Prop := fun σ H => ta σ H fun x H1 => tb σ H1 fun y H2 => ∃ i j, x = .int i ∧ y = .int j ∧ k i j H2
def tAdd (ta tb : TE) : TE := fun σ H Q => t2I ta tb (fun i j H2 => Q (.int (i + j)) H2) σ H
def tSub (ta tb : TE) : TE := fun σ H Q => t2I ta tb (fun i j H2 => Q (.int (i - j)) H2) σ H
/-- the left factor below 2^64 -/
def tMul (ta tb : TE) : TE := fun σ H Q => t2I ta tb (fun i j H2 => (-(2 ^ 64) < i ∧ i < 2 ^ 64) ∧ Q (.int (i * j)) H2) σ H
variable {a b : Expr} {ta tb : TE} {pos : Pos}
theorem pe_add (ha : PE X a ta) (hb : PE X b tb) : PE X (.BinOp a .Add b pos) (tAdd ta tb) := by
  intro pins s σ H Q I h
  refine wpAny_BinOp (bin ha hb I h fun v u s2 x y H2 I2 rx ry q => ?_)
  obtain ⟨i, j, rfl, rfl, q⟩ := q
  obtain ⟨t, rfl⟩ := rx
  obtain ⟨t', rfl⟩ := ry
  exact add_int ⟨.int _, H2, I2.tok _, ⟨_, rfl⟩, q⟩
theorem pe_sub (ha : PE X a ta) (hb : PE X b tb) : PE X (.BinOp a .Sub b pos) (tSub ta tb) := by
  intro pins s σ H Q I h
  refine wpAny_BinOp (bin ha hb I h fun v u s2 x y H2 I2 rx ry q => ?_)
  obtain ⟨i, j, rfl, rfl, q⟩ := q
  obtain ⟨t, rfl⟩ := rx
  obtain ⟨t', rfl⟩ := ry
  exact sub_int ⟨.int _, H2, I2.tok _, ⟨_, rfl⟩, q⟩
theorem pe_mul (ha : PE X a ta) (hb : PE X b tb) : PE X (.BinOp a .Mult b pos) (tMul ta tb) := by
  intro pins s σ H Q I h
  refine wpAny_BinOp (bin ha hb I h fun v u s2 x y H2 I2 rx ry q => ?_)
  obtain ⟨i, j, rfl, rfl, ⟨q1, q2⟩, q⟩ := q
  obtain ⟨t, rfl⟩ := rx
  obtain ⟨t', rfl⟩ := ry
  exact mul_int ⟨.int _, H2, I2.tok _, ⟨_, rfl⟩, q⟩ (.of_left (intBits_le_64 q1 q2))

/-! ### comparisons -/
def PC (X : Cx) (op : CmpOp) (a b : Expr) (t : TE) : Prop :=
  ∀ (pins : List (Addr × Obj)) (s : Shared) (σ : St) (H : Hp) (Q : VK), Inv X pins σ H s → t σ H Q →
    wpAny (model X.prog X.w) X.A (eval a X.env) (fun v s₁ => wpAny (model X.prog X.w) X.A (eval b X.env) (fun u s₂ => wpAny (model X.prog X.w) X.A (compareOp op v u) (EP X pins σ Q) X.xe s₂) X.xe s₁) X.xe s
theorem nobehind (b : Expr) {op : CmpOp} (h : op ≠ .In) (h2 : op ≠ .NotIn) : behindInMarks op b = false := by
  have e1 : (op == CmpOp.In) = false := by cases op <;> first | rfl | exact absurd rfl h
  have e2 : (op == CmpOp.NotIn) = false := by cases op <;> first | rfl | exact absurd rfl h2
  cases b <;> simp [behindInMarks, e1, e2]
def tCmp (p : Int → Int → Bool) (ta tb : TE) : TE := fun σ H Q => t2I ta tb (fun i j H2 => Q (.bl (p i j)) H2) σ H
abbrev tLt : TE → TE → TE := tCmp fun i j => decide (i < j)
abbrev tLe : TE → TE → TE := tCmp fun i j => decide (i ≤ j)
abbrev tGt : TE → TE → TE := tCmp fun i j => decide (j < i)
abbrev tGe : TE → TE → TE := tCmp fun i j => decide (j ≤ i)
abbrev tEqI : TE → TE → TE := tCmp fun i j => decide (i = j)
abbrev tNeI : TE → TE → TE := tCmp fun i j => !decide (i = j)
/-- a comparison of two ints, by its rule -/
theorem pc_int {op : CmpOp} {p : Int → Int → Bool} (ha : PE X a ta) (hb : PE X b tb)
    (rule : ∀ (i j : Int) (t u : Tok) (Q : Value → Shared → Prop) (s : Shared), Q (.bool (p i j)) s → wpAny (model X.prog X.w) X.A (compareOp op (.int i t) (.int j u)) Q X.xe s) : PC X op a b (tCmp p ta tb) := by
  intro pins s σ H Q I h
  refine bin ha hb I h fun v u s2 x y H2 I2 rx ry q => ?_
  obtain ⟨i, j, rfl, rfl, q⟩ := q
  obtain ⟨t, rfl⟩ := rx
  obtain ⟨t', rfl⟩ := ry
  exact rule i j t t' _ s2 ⟨.bl _, H2, I2, rfl, q⟩
theorem pc_lt (ha : PE X a ta) (hb : PE X b tb) : PC X .Lt a b (tLt ta tb) := pc_int ha hb fun _ _ _ _ _ _ h => lt_int h
theorem pc_le (ha : PE X a ta) (hb : PE X b tb) : PC X .LtE a b (tLe ta tb) := pc_int ha hb fun _ _ _ _ _ _ h => le_int h
theorem pc_gt (ha : PE X a ta) (hb : PE X b tb) : PC X .Gt a b (tGt ta tb) := pc_int ha hb fun _ _ _ _ _ _ h => gt_int h
theorem pc_ge (ha : PE X a ta) (hb : PE X b tb) : PC X .GtE a b (tGe ta tb) := pc_int ha hb fun _ _ _ _ _ _ h => ge_int h
theorem pc_eqI (ha : PE X a ta) (hb : PE X b tb) : PC X .Eq a b (tEqI ta tb) := pc_int ha hb fun _ _ _ _ _ _ h => eq_int (by rw [Bool.beq_eq_decide_eq]; exact h)
theorem pc_neI (ha : PE X a ta) (hb : PE X b tb) : PC X .NotEq a b (tNeI ta tb) := pc_int ha hb fun _ _ _ _ _ _ h => ne_int (by rw [bne, Bool.beq_eq_decide_eq]; exact h)
/-- is None -/
def tIsN (ta : TE) : TE := fun σ H Q => ta σ H fun x H1 => Q (.bl (decide (x = .non))) H1
def tNotN (ta : TE) : TE := fun σ H Q => ta σ H fun x H1 => Q (.bl (!decide (x = .non))) H1
theorem RelV.none_iff {x : V} {v : Value} (r : RelV x v) : (v == Value.none) = decide (x = .non) := by
  cases x with
  | non => cases r; rfl
  | bl _ => cases r; rfl
  | int _ => obtain ⟨t, rfl⟩ := r; rfl
  | str _ => obtain ⟨t, rfl⟩ := r; rfl
  | byt _ => obtain ⟨t, rfl⟩ := r; rfl
  | flt _ => obtain ⟨t, rfl⟩ := r; rfl
  | ref _ => cases r; rfl
  | ty _ => cases r; rfl
theorem pc_isN {j pos'} (ha : PE X a ta) : PC X .Is a (.Constant .none j pos') (tIsN ta) := by
  intro pins s σ H Q I h
  refine thn (ha pins s σ H _ I h) fun v s1 ⟨x, H1, I1, r1, q1⟩ => ?_
  exact Constant_none (is_none_gen ⟨.bl _, H1, I1, by rw [r1.none_iff]; rfl, q1⟩)
theorem pc_notN {j pos'} (ha : PE X a ta) : PC X .IsNot a (.Constant .none j pos') (tNotN ta) := by
  intro pins s σ H Q I h
  refine thn (ha pins s σ H _ I h) fun v s1 ⟨x, H1, I1, r1, q1⟩ => ?_
  exact Constant_none (isnot_none_gen ⟨.bl _, H1, I1, by rw [r1.none_iff]; rfl, q1⟩)
/-- a comparison as a value, as a test -/
def tB (t : TE) : TT := fun σ H Q => t σ H fun x H1 => ∃ c, x = .bl c ∧ Q c H1
theorem pe_cmp {op : CmpOp} {t : TE} (h : PC X op a b t) (h1 : behindInMarks op b = false := by first | exact nobehind _ (by decide) (by decide) | rfl) : PE X (.Compare a [op] [b] pos) t := fun pins s σ H Q I hw => wpAny_Compare1 (h pins s σ H Q I hw) h1
theorem pt_cmp {op : CmpOp} {t : TE} (h : PC X op a b t) (h1 : behindInMarks op b = false := by first | exact nobehind _ (by decide) (by decide) | rfl) : PT X (.Compare a [op] [b] pos) (tB t) := by
  intro pins s σ H Q I hw
  refine wpAny_isTrue_Compare1 (thn (h pins s σ H _ I hw) fun v s1 h1 => thn h1 fun u s2 h2 => thn h2 fun c s3 ⟨x, H1, I1, r1, q1⟩ => ?_) h1
  obtain ⟨d, rfl, q⟩ := q1
  cases r1
  exact wpAny_truthy_bool ⟨H1, I1, q⟩
/-- an expression whose value is a bool, as a test -/
theorem pt_val {e : Expr} {t : TE} (h : PE X e t) (he : ∀ whole, isTrue e X.env whole = (do let v ← whole; standAt e.pos; holding [v] (truthy v)) := by intro _; rfl) : PT X e (tB t) := by
  intro pins s σ H Q I hw
  refine isTrue_plain (thn (h pins s σ H _ I hw) fun v s1 ⟨x, H1, I1, r1, q1⟩ => ?_) (he _)
  obtain ⟨d, rfl, q⟩ := q1
  cases r1
  exact wpAny_truthy_bool ⟨H1, I1, q⟩

/-! ### and, or, not -/
variable {tA tB' : TT} {rest : List Expr}
def tAnd (t u : TT) : TT := fun σ H Q => t σ H fun c H1 => if c = true then u σ H1 Q else Q false H1
def tOr (t u : TT) : TT := fun σ H Q => t σ H fun c H1 => if c = true then Q true H1 else u σ H1 Q
def tNot (t : TT) : TT := fun σ H Q => t σ H fun c H1 => Q (!c) H1
theorem pw_and1 (ha : PT X a tA) : PW X (.BoolOp .And [a] pos) tA := by
  intro wh pins s σ H Q I h
  refine isTrue_and (thn (ha pins s σ H Q I h) fun c s1 e => ?_)
  cases c with
  | true => exact isTrue_and_nil e
  | false => exact e
theorem pw_or1 (ha : PT X a tA) : PW X (.BoolOp .Or [a] pos) tA := by
  intro wh pins s σ H Q I h
  refine isTrue_or (thn (ha pins s σ H Q I h) fun c s1 e => ?_)
  cases c with
  | false => exact isTrue_or_nil e
  | true => exact e
theorem pw_and (ha : PT X a tA) (hb : PW X (.BoolOp .And (b :: rest) pos) tB') : PW X (.BoolOp .And (a :: b :: rest) pos) (tAnd tA tB') := by
  intro wh pins s σ H Q I h
  refine isTrue_and (thn (ha pins s σ H _ I h) fun c s1 ⟨H1, I1, q1⟩ => ?_)
  cases c with
  | true => exact hb wh pins s1 σ H1 Q I1 q1
  | false => exact ⟨H1, I1, q1⟩
theorem pw_or (ha : PT X a tA) (hb : PW X (.BoolOp .Or (b :: rest) pos) tB') : PW X (.BoolOp .Or (a :: b :: rest) pos) (tOr tA tB') := by
  intro wh pins s σ H Q I h
  refine isTrue_or (thn (ha pins s σ H _ I h) fun c s1 ⟨H1, I1, q1⟩ => ?_)
  cases c with
  | true => exact ⟨H1, I1, q1⟩
  | false => exact hb wh pins s1 σ H1 Q I1 q1
theorem pt_not (ha : PT X a tA) : PT X (.UnaryOp .Not a pos) (tNot tA) := by
  intro pins s σ H Q I h
  exact isTrue_not (ha pins s σ H (fun c H1 => Q (!c) H1) I h)
/-- .. as values (bools) -/
def tAndV (ta tb : TE) : TE := fun σ H Q => ta σ H fun x H1 => ∃ c, x = .bl c ∧ if c = true then tb σ H1 Q else Q (.bl false) H1
def tOrV (ta tb : TE) : TE := fun σ H Q => ta σ H fun x H1 => ∃ c, x = .bl c ∧ if c = true then Q (.bl true) H1 else tb σ H1 Q
def tNotV (ta : TE) : TE := fun σ H Q => ta σ H fun x H1 => ∃ c, x = .bl c ∧ Q (.bl (!c)) H1
theorem pe_one {op} {t : TE} (h : PE X a t) : PE X (.BoolOp op [a] pos) t := fun pins s σ H Q I hw => BoolOp_one (h pins s σ H Q I hw)
theorem pe_and (ha : PE X a ta) (hb : PE X (.BoolOp .And (b :: rest) pos) tb) : PE X (.BoolOp .And (a :: b :: rest) pos) (tAndV ta tb) := by
  intro pins s σ H Q I h
  refine BoolOp_and (thn (ha pins s σ H _ I h) fun v s1 ⟨x, H1, I1, r1, q1⟩ => ?_)
  obtain ⟨c, rfl, q1⟩ := q1
  cases r1
  refine wpAny_truthy_bool ?_
  cases c with
  | true => exact hb pins s1 σ H1 Q I1 q1
  | false => exact ⟨.bl false, H1, I1, rfl, q1⟩
theorem pe_or (ha : PE X a ta) (hb : PE X (.BoolOp .Or (b :: rest) pos) tb) : PE X (.BoolOp .Or (a :: b :: rest) pos) (tOrV ta tb) := by
  intro pins s σ H Q I h
  refine BoolOp_or (thn (ha pins s σ H _ I h) fun v s1 ⟨x, H1, I1, r1, q1⟩ => ?_)
  obtain ⟨c, rfl, q1⟩ := q1
  cases r1
  refine wpAny_truthy_bool ?_
  cases c with
  | false => exact hb pins s1 σ H1 Q I1 q1
  | true => exact ⟨.bl true, H1, I1, rfl, q1⟩
theorem pe_not (ha : PE X a ta) : PE X (.UnaryOp .Not a pos) (tNotV ta) := by
  intro pins s σ H Q I h
  refine UnaryOp_ (thn (ha pins s σ H _ I h) fun v s1 ⟨x, H1, I1, r1, q1⟩ => ?_)
  obtain ⟨c, rfl, q1⟩ := q1
  cases r1
  exact not_of (wpAny_truthy_bool ⟨.bl (!c), H1, I1, rfl, q1⟩)
/-- a if t else b -/
def tIf (t : TT) (ta tb : TE) : TE := fun σ H Q => t σ H fun c H1 => if c = true then ta σ H1 Q else tb σ H1 Q
theorem pe_ifExp {c : Expr} (hc : PT X c tA) (ha : PE X a ta) (hb : PE X b tb) : PE X (.IfExp c a b pos) (tIf tA ta tb) := by
  intro pins s σ H Q I h
  refine wpAny_IfExp (thn (hc pins s σ H _ I h) fun d s1 ⟨H1, I1, q1⟩ => ?_)
  cases d with
  | true => exact ha pins s1 σ H1 Q I1 q1
  | false => exact hb pins s1 σ H1 Q I1 q1
end
end L2

namespace L2
open PySem PySem.Spec PyProof.Rows

/-! ### a list, a tuple that is read: tracked, frozen, or an object of the module -/
def SqL (K : PySem.W.Frag) (H : Hp) (a : Addr) (xs : List V) : Prop :=
  Rd H a (.lst xs) ∨
    ∃ (o : Obj) (its : Array Value) (n : Nat), K.lookup a = some o ∧ o.cls = .type "list" ∧ o.dict = none ∧ o.data = .seq its n ∧ its.size ≤ sizeLine ∧ Vals xs its.toList
def SqT (K : PySem.W.Frag) (H : Hp) (a : Addr) (xs : List V) : Prop :=
  Rd H a (.tup xs) ∨
    ∃ (o : Obj) (its : Array Value) (n : Nat), K.lookup a = some o ∧ o.cls = .type "tuple" ∧ o.data = .seq its n ∧ its.size ≤ sizeLine ∧ Vals xs its.toList
def absV : Value → Option V
  | .none => some .non
  | .bool b => some (.bl b)
  | .int i _ => some (.int i)
  | .str x _ => some (.str x)
  | .bytes b _ => some (.byt b)
  | .float b _ => some (.flt b)
  | .ref a => some (.ref a)
  | .type n => some (.ty n)
  | _ => none
theorem RelV.abs {x : V} {u : Value} (r : RelV x u) : absV u = some x := by
  cases x with
  | non => cases r; rfl
  | bl _ => cases r; rfl
  | int _ => obtain ⟨t, rfl⟩ := r; rfl
  | str _ => obtain ⟨t, rfl⟩ := r; rfl
  | byt _ => obtain ⟨t, rfl⟩ := r; rfl
  | flt _ => obtain ⟨t, rfl⟩ := r; rfl
  | ref _ => cases r; rfl
  | ty _ => cases r; rfl
theorem RelV.inj {x y : V} {u : Value} (r : RelV x u) (q : RelV y u) : x = y := Option.some.inj (r.abs.symm.trans q.abs)
theorem Vals.inj : ∀ {xs ys : List V} {us : List Value}, Vals xs us → Vals ys us → xs = ys
  | _, _, _, .nil, .nil => rfl
  | _, _, _, .cons r t, .cons r' t' => by rw [r.inj r', Vals.inj t t']
section
variable {X : Cx} {pins : List (Addr × Obj)} {σ : St} {H : Hp} {s : Shared} {a : Addr} {xs ys : List V}
theorem SqL.of {K : PySem.W.Frag} (h : H a = some (.lst xs)) : SqL K H a xs := .inl (.inl h)
theorem SqT.of {K : PySem.W.Frag} (h : H a = some (.tup xs)) : SqT K H a xs := .inl (.inl h)
theorem Inv.list (I : Inv X pins σ H s) (h : SqL X.K H a xs) : ∃ its : List Value, Vals xs its ∧ PlainL s.heap a its.toArray ∧ xs.length ≤ sizeLine := by
  rcases h with h | ⟨o, its, n, hk, hc, hd, hs, hz, r⟩
  · obtain ⟨z, its, n, r, e⟩ := h.ok I.hok
    exact ⟨its, r, ⟨_, n, e, rfl, rfl, rfl⟩, z⟩
  · refine ⟨its.toList, r, ⟨o, n, I.kIn a o hk, hc, hd, by simpa using hs⟩, ?_⟩
    have e := r.length
    simp only [Array.length_toList] at e
    omega
theorem Inv.tuple (I : Inv X pins σ H s) (h : SqT X.K H a xs) : ∃ its : List Value, Vals xs its ∧ IsTup s.heap a its.toArray ∧ xs.length ≤ sizeLine := by
  rcases h with h | ⟨o, its, n, hk, hc, hs, hz, r⟩
  · obtain ⟨z, its, r, p⟩ := h.ok I.hok
    exact ⟨its, r, p, z⟩
  · refine ⟨its.toList, r, ⟨o, I.kIn a o hk, hc, n, by simpa using hs⟩, ?_⟩
    have e := r.length
    simp only [Array.length_toList] at e
    omega
theorem Inv.list_inj (I : Inv X pins σ H s) (h : SqL X.K H a xs) (h' : SqL X.K H a ys) : xs = ys := by
  obtain ⟨its, r, ⟨o, n, e, _, _, d⟩, _⟩ := I.list h
  obtain ⟨its', r', ⟨o', n', e', _, _, d'⟩, _⟩ := I.list h'
  rw [e] at e'; cases e'
  rw [d] at d'
  injection d' with d1 _
  have : its = its' := by simpa using congrArg Array.toList d1
  subst this
  exact r.inj r'
theorem Inv.tuple_inj (I : Inv X pins σ H s) (h : SqT X.K H a xs) (h' : SqT X.K H a ys) : xs = ys := by
  obtain ⟨its, r, ⟨o, e, _, n, d⟩, _⟩ := I.tuple h
  obtain ⟨its', r', ⟨o', e', _, n', d'⟩, _⟩ := I.tuple h'
  rw [e] at e'; cases e'
  rw [d] at d'
  injection d' with d1 _
  have : its = its' := by simpa using congrArg Array.toList d1
  subst this
  exact r.inj r'
end

/-! ### another wish about exceptions -/
abbrev Cx.wish (X : Cx) (E : Value → Shared → Prop) : Cx := { X with xe := E }
/-- no exception leaves -/
abbrev Cx.nox (X : Cx) : Cx := X.wish fun _ _ => False
theorem Cx.Ok.wish {X : Cx} (ok : X.Ok) (E : Value → Shared → Prop) : (X.wish E).Ok :=
  ⟨ok.mod, ok.kind, ok.glob, ok.blt, ok.above, ok.inj, ok.has, ok.cab, ok.hd, ok.frames, ok.stk, ok.exf, ok.bs, ok.bsz, ok.noex, ok.exfs, ok.funs, ok.frf⟩
theorem Cx.Ok.unwish {X : Cx} {E : Value → Shared → Prop} (ok : (X.wish E).Ok) : X.Ok :=
  ⟨ok.mod, ok.kind, ok.glob, ok.blt, ok.above, ok.inj, ok.has, ok.cab, ok.hd, ok.frames, ok.stk, ok.exf, ok.bs, ok.bsz, ok.noex, ok.exfs, ok.funs, ok.frf⟩
section
variable {X : Cx} {pins : List (Addr × Obj)} {σ : St} {H : Hp} {s : Shared} {E : Value → Shared → Prop}
theorem Inv.wish (I : Inv X pins σ H s) (E : Value → Shared → Prop) : Inv (X.wish E) pins σ H s := ⟨I.ok.wish E, I.os, I.bare, I.base, I.loc, I.cell, I.free, I.freeC, I.pin, I.hok, I.len⟩
theorem Inv.unwish (I : Inv (X.wish E) pins σ H s) : Inv X pins σ H s := ⟨I.ok.unwish, I.os, I.bare, I.base, I.loc, I.cell, I.free, I.freeC, I.pin, I.hok, I.len⟩
theorem SP.unwish {D : Ends} {f : Flow} {s' : Shared} (h : SP (X.wish E) pins D f s') : SP X pins D f s' := by
  cases f with
  | next => obtain ⟨σ', H', I, q⟩ := h; exact ⟨σ', H', I.unwish, q⟩
  | brk => obtain ⟨σ', H', I, q⟩ := h; exact ⟨σ', H', I.unwish, q⟩
  | cont => obtain ⟨σ', H', I, q⟩ := h; exact ⟨σ', H', I.unwish, q⟩
  | ret u => obtain ⟨v, σ', H', I, r, q⟩ := h; exact ⟨v, σ', H', I.unwish, r, q⟩
theorem PE.nox {e : Expr} {t : TE} (h : PE X.nox e t) : PE X e t := fun pins s σ H Q I hw =>
  wpAny_mono (h pins s σ H Q (I.wish _) hw) (fun _ _ ⟨v, H', I', r, q⟩ => ⟨v, H', I'.unwish, r, q⟩) fun _ _ z => False.elim z
theorem PT.nox {e : Expr} {t : TT} (h : PT X.nox e t) : PT X e t := fun pins s σ H Q I hw =>
  wpAny_mono (h pins s σ H Q (I.wish _) hw) (fun _ _ ⟨H', I', q⟩ => ⟨H', I'.unwish, q⟩) fun _ _ z => False.elim z
theorem PSs.nox {st : List Stmt} {t : TS} (h : PSs X.nox st t) : PSs X st t := fun pins s σ H D I hw =>
  wpAny_mono (h pins s σ H D (I.wish _) hw) (fun _ _ q => q.unwish) fun _ _ z => False.elim z
end

/-! ### blocks and small statements -/
section
variable {X : Cx} {st : Stmt} {rest : List Stmt} {t u : TS} {e : Expr} {te : TE} {pos : Pos}
def tNext : TS := fun D σ H => D.nx σ H
def tSeq (t u : TS) : TS := fun D σ H => t { D with nx := u D } σ H
theorem pss_nil : PSs X [] tNext := fun _ _ σ H _ I h => wpAny_execs_nil ⟨σ, H, I, h⟩
theorem pss_cons (h1 : PS X st t) (h2 : PSs X rest u) : PSs X (st :: rest) (tSeq t u) := by
  intro pins s σ H D I h
  refine wpAny_execs_cons (thn (h1 pins s σ H { D with nx := u D } I h) fun f s1 q => ?_)
  cases f with
  | next =>
    obtain ⟨σ', H', I', q⟩ := q
    exact h2 pins s1 σ' H' D I' q
  | ret v => exact q
  | brk => exact q
  | cont => exact q
theorem pss_one (h1 : PS X st t) : PSs X [st] t := by
  intro pins s σ H D I h
  refine wpAny_execs_cons (thn (h1 pins s σ H D I h) fun f s1 q => ?_)
  cases f with
  | next => exact wpAny_execs_nil q
  | ret v => exact q
  | brk => exact q
  | cont => exact q
def tBreak : TS := fun D σ H => D.bk σ H
def tCont : TS := fun D σ H => D.ct σ H
theorem ps_pass : PS X (.Pass pos) tNext := fun _ _ σ H _ I h => wpAny_Pass ⟨σ, H, I, h⟩
theorem ps_break : PS X (.Break pos) tBreak := fun _ _ σ H _ I h => wpAny_Break ⟨σ, H, I, h⟩
theorem ps_continue : PS X (.Continue pos) tCont := fun _ _ σ H _ I h => wpAny_Continue ⟨σ, H, I, h⟩
/-- in a def's body nothing is shown -/
theorem Inv.quiet {pins : List (Addr × Obj)} {σ : St} {H : Hp} {s : Shared} (I : Inv X pins σ H s) : interactive X.env = false := by simp [interactive, I.ok.kind]
/-- a docstring -/
theorem ps_doc {x j pos pos'} : PS X (.Expr (.Constant (.str x) j pos) pos') tNext := fun _ s σ H _ I h => wpAny_Expr (Calls.Constant_str (show SP X _ _ .next { s with toks := s.toks + 1 } from ⟨σ, H, I.tok _, h⟩)) I.quiet
/-- an expression whose value is dropped -/
def tDrop (te : TE) : TS := fun D σ H => te σ H fun _ H1 => D.nx σ H1
theorem ps_expr (he : PE X e te) (hs : swapsWith e none pos.line X.env = pure false := by rfl) : PS X (.Expr e pos) (tDrop te) := by
  intro pins s σ H D I h
  exact wpAny_Expr_any (thn (he pins s σ H _ I h) fun v s1 ⟨x, H1, I1, r1, q1⟩ => ⟨σ, H1, I1, q1⟩) I.quiet hs
def tRet (te : TE) : TS := fun D σ H => te σ H D.rt
theorem ps_ret (he : PE X e te) : PS X (.Return (some e) pos) (tRet te) := by
  intro pins s σ H D I h
  exact wpAny_Return_some (thn (he pins s σ H _ I h) fun v s1 ⟨x, H1, I1, r1, q1⟩ => ⟨x, σ, H1, I1, r1, q1⟩)
def tRetN : TS := fun D _ H => D.rt .non H
theorem ps_retN : PS X (.Return none pos) tRetN := fun _ _ σ H _ I h => wpAny_Return_none ⟨.non, σ, H, I, rfl, h⟩
def tIfS (c : TT) (t u : TS) : TS := fun D σ H => c σ H fun b H1 => if b = true then t D σ H1 else u D σ H1
theorem ps_if {c : Expr} {a b : List Stmt} {tc : TT} (hc : PT X c tc) (ha : PSs X a t) (hb : PSs X b u) : PS X (.If c a b pos) (tIfS tc t u) := by
  intro pins s σ H D I h
  refine wpAny_If (thn (hc pins s σ H _ I h) fun d s1 ⟨H1, I1, q1⟩ => ?_)
  cases d with
  | true => exact ha pins s1 σ H1 D I1 q1
  | false => exact hb pins s1 σ H1 D I1 q1
/-- code that the proof never comes to -/
def tNever : TS := fun _ _ _ => False
theorem ps_never : PS X st tNever := fun _ _ _ _ _ _ h => h.elim
theorem pss_never {sts : List Stmt} : PSs X sts tNever := fun _ _ _ _ _ _ h => h.elim
end

/-! ### targets -/
abbrev TG := V → St → Hp → (St → Hp → Prop) → Prop
abbrev TGs := List V → St → Hp → (St → Hp → Prop) → Prop
def PG (X : Cx) (target : Expr) (t : TG) : Prop :=
  ∀ (pins : List (Addr × Obj)) (s : Shared) (σ : St) (H : Hp) (v : V) (u : Value) (Q : St → Hp → Prop), Inv X pins σ H s → RelV v u → t v σ H Q →
    wpAny (model X.prog X.w) X.A (assign target X.env u) (fun _ s' => ∃ σ' H', Inv X pins σ' H' s' ∧ Q σ' H') X.xe s
/-- several targets, one after another -/
def PGs (X : Cx) (ts : List Expr) (t : TGs) : Prop :=
  ∀ (pins : List (Addr × Obj)) (s : Shared) (σ : St) (H : Hp) (vs : List V) (us : List Value) (Q : St → Hp → Prop), Inv X pins σ H s → Vals vs us → t vs σ H Q →
    wpAny (model X.prog X.w) X.A (assignInOrder ((assignEach ts X.env).map (·.2)) us) (fun _ s' => ∃ σ' H', Inv X pins σ' H' s' ∧ Q σ' H') X.xe s
/-- o[i] = v, by values -/
abbrev TSet := V → V → V → Hp → (Hp → Prop) → Prop
def PSet (X : Cx) (t : TSet) : Prop :=
  ∀ (pins : List (Addr × Obj)) (s : Shared) (σ : St) (H : Hp) (o i v : V) (ov iv u : Value) (Q : Hp → Prop), Inv X pins σ H s → RelV o ov → RelV i iv → RelV v u → t o i v H Q →
    wpAny (model X.prog X.w) X.A (setItem ov iv u) (fun _ s' => ∃ H', Inv X pins σ H' s' ∧ Q H') X.xe s
/-- a op= b, by values -/
abbrev TIp := V → V → Hp → VK → Prop
def PIp (X : Cx) (op : Operator) (t : TIp) : Prop :=
  ∀ (pins : List (Addr × Obj)) (s : Shared) (σ : St) (H : Hp) (x y : V) (v u : Value) (Q : VK), Inv X pins σ H s → RelV x v → RelV y u → t x y H Q →
    wpAny (model X.prog X.w) X.A (inplaceOp op v u) (EP X pins σ Q) X.xe s
section
variable {X : Cx} {pos : Pos}
def gName (i : Nat) : TG := fun v σ H Q => Q (σ.set i (some v)) H
theorem pg_name {i : Nat} {x : Str} (hN : X.N.Nodup) (hi : X.N[i]? = some x) (hx : Loc X.env.scope x) (hf : X.fn x = true ∨ X.env.scope.names.lookup x = some .local := by first | exact .inl rfl | exact .inr rfl | assumption) : PG X (.Name x pos) (gName i) := by
  intro pins s σ H v u Q I r h
  exact wpAny_assign_Name (store_ok I hN hi hx r (fun s' I' => ⟨_, H, I', h⟩) hf)
def gNil : TGs := fun vs σ H Q => vs = [] ∧ Q σ H
def gCons (t : TG) (u : TGs) : TGs := fun vs σ H Q => ∃ v r, vs = v :: r ∧ t v σ H fun σ' H' => u r σ' H' Q
theorem pgs_nil : PGs X [] gNil := by
  intro pins s σ H vs us Q I r h
  obtain ⟨e, h⟩ := h
  subst e
  cases r
  exact assignInOrder_nil ⟨σ, H, I, h⟩
theorem pgs_cons {e : Expr} {es : List Expr} {t : TG} {u : TGs} (h1 : PG X e t) (h2 : PGs X es u)
    (hs : (assignEach (e :: es) X.env).map (·.2) = assign e X.env :: (assignEach es X.env).map (·.2) := by rfl) : PGs X (e :: es) (gCons t u) := by
  intro pins s σ H vs us Q I r h
  obtain ⟨v, vr, e1, h⟩ := h
  subst e1
  cases r with
  | cons r rr =>
    rw [hs]
    refine assignInOrder_cons (thn (h1 pins s σ H _ _ _ I r h) fun _ s1 ⟨σ1, H1, I1, q1⟩ => ?_)
    exact h2 pins s1 σ1 H1 _ _ Q I1 rr q1
/-- (a, b, ..) = a tuple of that length -/
def gTup (K : PySem.W.Frag) (n : Nat) (t : TGs) : TG := fun v σ H Q => ∃ a xs, v = .ref a ∧ SqT K H a xs ∧ xs.length = n ∧ t xs σ H Q
theorem pg_tup {es : List Expr} {k : Nat} {t : TGs} {n : Nat} (hc : X.calm = true) (h : PGs X es t)
    (hn : (assignEach es X.env).length = n := by rfl) (hst : (assignEach es X.env).findIdx? (·.1) = none := by rfl) : PG X (.Tuple es k pos) (gTup X.K n t) := by
  intro pins s σ H v u Q I r hw
  obtain ⟨a, xs, e1, hq, hl, hw⟩ := hw
  subst e1
  cases r
  obtain ⟨its, rv, ht, hz⟩ := I.tuple hq
  refine assign_Tuple_tuple (I.ok.hd hc) ht (by simp [hn, ← hl, rv.length]) hst fun h' hx => ?_
  have I1 : Inv X pins σ H { s with heap := h' } := I.kept (t' := s.toks) fun b o e => hx b o (Nat.ne_of_lt (Heap.lt_size e)) e
  exact h pins _ σ H xs _ Q I1 (by simpa using rv) hw
/-- o[i] = .. -/
def gSub (to ti : TE) (t : TSet) : TG := fun v σ H Q => to σ H fun o H1 => ti σ H1 fun i H2 => t o i v H2 fun H3 => Q σ H3
theorem pg_sub {o i : Expr} {to ti : TE} {t : TSet} (ho : PE X o to) (hi : PE X i ti) (hs : PSet X t)
    (ha : ∀ v, assign (.Subscript o i pos) X.env v = (do
      let ov ← holding [v] (eval o X.env)
      let iv ← holding [v, ov] (eval i X.env)
      standAt pos
      holding [v, ov, iv] (setItem ov iv v)
      release [v, ov, iv] []) := by intro _; rfl) : PG X (.Subscript o i pos) (gSub to ti t) := by
  intro pins s σ H v u Q I r h
  rw [ha]
  refine wpAny_bind (wpAny_holding (thn (ho pins s σ H _ I h) fun ov s1 ⟨x, H1, I1, r1, q1⟩ => ?_))
  refine wpAny_bind (wpAny_holding (thn (hi pins s1 σ H1 _ I1 q1) fun iv s2 ⟨y, H2, I2, r2, q2⟩ => ?_))
  refine wpAny_bind (wpAny_standAt (wpAny_bind (wpAny_holding (thn (hs pins s2 σ H2 x y v ov iv u _ I2 r1 r2 r q2) fun _ s3 ⟨H3, I3, q3⟩ => ?_))))
  exact wpAny_release ⟨σ, H3, I3, q3⟩
/-- target = value -/
def tAsg (te : TE) (g : TG) : TS := fun D σ H => te σ H fun x H1 => g x σ H1 D.nx
theorem ps_asg {tg e : Expr} {te : TE} {g : TG} (he : PE X e te) (hg : PG X tg g) (hs : swapsWithSole [tg] e pos.line X.env = pure false := by rfl) (hw : swappedStores [tg] e X.env = pure none := by rfl)
    (h1 : (assignEach [tg] X.env).map (·.2) = [assign tg X.env] := by rfl) : PS X (.Assign [tg] e pos) (tAsg te g) := by
  intro pins s σ H D I h
  refine wpAny_Assign_stores (thn (he pins s σ H _ I h) fun v s1 ⟨x, H1, I1, r1, q1⟩ => ?_) hs hw
  rw [h1]
  exact thn (hg pins s1 σ H1 x v _ I1 r1 q1) fun _ s2 q => q
/-- name = value -/
theorem ps_set {i : Nat} {x : Str} {e : Expr} {te : TE} {pos' : Pos} (hN : X.N.Nodup) (hi : X.N[i]? = some x) (hx : Loc X.env.scope x) (he : PE X e te) (hs : swapsWith e (some (.Name x pos')) pos.line X.env = pure false := by rfl) (hf : X.fn x = true ∨ X.env.scope.names.lookup x = some .local := by first | exact .inl rfl | exact .inr rfl | assumption) :
    PS X (.Assign [.Name x pos'] e pos) (tAsg te (gName i)) := by
  intro pins s σ H D I h
  refine wpAny_Assign_Name (thn (he pins s σ H _ I h) fun v s1 ⟨y, H1, I1, r1, q1⟩ => ?_) hs
  exact store_ok I1 hN hi hx r1 (fun s2 I2 => ⟨_, H1, I2, q1⟩) hf
/-- a, b = x, y with plain local names: stored from the right; the pair itself is not tracked (the opening rows as in PyProof/Rows/TupAssign.lean:23) -/
def tPar (i j : Nat) (ta : TA) : TS := fun D σ H => ta σ H fun vs H1 => ∃ v w, vs = [v, w] ∧ D.nx ((σ.set i (some v)).set j (some w)) H1
theorem ps_par {i j : Nat} {x y : Str} {a b : Expr} {ta : TA} {px py pt : Pos} {kt k2 pt2} (hc : X.calm = true) (hN : X.N.Nodup) (hi : X.N[i]? = some x) (hj : X.N[j]? = some y) (hij : i ≠ j)
    (hx : X.env.scope.names.lookup x = some .local) (hy : X.env.scope.names.lookup y = some .local) (ha : PA X [a, b] ta)
    (hw : swappedStores [.Tuple [.Name x px, .Name y py] kt pt] (.Tuple [a, b] k2 pt2) X.env = pure (some [x, y]))
    (hs : swapsWithSole [.Tuple [.Name x px, .Name y py] kt pt] (.Tuple [a, b] k2 pt2) pos.line X.env = pure false := by rfl) :
    PS X (.Assign [.Tuple [.Name x px, .Name y py] kt pt] (.Tuple [a, b] k2 pt2) pos) (tPar i j ta) := by
  intro pins s σ H D I h
  rw [exec_Assign_arm]
  refine wpAny_bind (wpAny_standAt ?_)
  rw [hs]
  refine wpAny_bind (wpAny_pure ?_)
  rw [if_neg (by decide)]
  refine wpAny_bind (Tuple_ (thn (ha _ pins s σ H _ I h) fun us s1 ⟨vs, H1, I1, r1, q1⟩ => ?_))
  obtain ⟨v, w, e1, q1⟩ := q1
  subst e1
  obtain ⟨u1, u2, rfl, rv, rw'⟩ : ∃ u1 u2, us = [u1, u2] ∧ RelV v u1 ∧ RelV w u2 := by
    cases r1 with
    | cons p q =>
      cases q with
      | cons p' q' =>
        cases q'
        exact ⟨_, _, rfl, p, p'⟩
  refine wpAny_newObj_type ?_ (by show 2 ≤ sizeLine; decide)
  have I2 : Inv X pins σ H1 { s1 with heap := s1.heap.push { cls := .type "tuple", data := .seq [u1, u2].toArray } } := I1.kept (t' := s1.toks) fun b o e => Heap.get?_push_of_some _ e
  rw [hw]
  refine wpAny_bind (wpAny_pure ?_)
  show wpAny (model X.prog X.w) X.A (do rule "assign.swapped-stores"; let items ← unpackItems (.ref s1.heap.objs.size) 2 none; assignInOrder [fun v => bindName X.env y v, fun v => bindName X.env x v] items.reverse; pure Flow.next) _ _ _
  refine wpAny_bind (wpAny_rule (wpAny_bind (unpackItems_tuple (items := #[u1, u2]) (I.ok.hd hc) (IsTup.new s1.heap _) fun h' hx' => ?_)))
  have I3 := I2.kept (h' := h') (t' := s1.toks) fun b o e => hx' b o (Nat.ne_of_lt (Heap.lt_size e)) e
  show wpAny _ _ (assignInOrder [fun v => bindName X.env y v, fun v => bindName X.env x v] [u2, u1] >>= fun _ => pure Flow.next) _ _ _
  refine wpAny_bind (assignInOrder_cons (wpAny_bindName (store_ok I3 hN hj (.inl hy) rw' (fun s2 I4 => ?_) (.inr hy))))
  refine assignInOrder_cons (wpAny_bindName (store_ok I4 hN hi (.inl hx) rv (fun s3 I5 => assignInOrder_nil (wpAny_pure ?_)) (.inr hx)))
  rw [List.set_comm _ _ (Ne.symm hij)] at I5
  exact ⟨_, H1, I5, q1⟩
/-- name op= e -/
def tAug (i : Nat) (te : TE) (ti : TIp) : TS := fun D σ H => ∃ x, σ[i]? = some (some x) ∧ te σ H fun y H1 => ti x y H1 fun z H2 => D.nx (σ.set i (some z)) H2
theorem ps_aug {i : Nat} {x : Str} {e : Expr} {te : TE} {op : Operator} {ti : TIp} {pos' : Pos} (hN : X.N.Nodup) (hi : X.N[i]? = some x) (hx : Loc X.env.scope x) (he : PE X e te) (ho : PIp X op ti) (hf : X.fn x = true ∨ X.env.scope.names.lookup x = some .local := by first | exact .inl rfl | exact .inr rfl | assumption) :
    PS X (.AugAssign (.Name x pos') op e pos) (tAug i te ti) := by
  intro pins s σ H D I h
  obtain ⟨v, e1, h⟩ := h
  obtain ⟨m, hn, hl⟩ := I.loc
  have vis : Vis X.env.scope x := by rcases hx with k | k; exact .inl k; exact .inr (.inl k)
  obtain ⟨u, r, l⟩ := hl i x v hi e1 vis
  refine wpAny_AugAssign_Name ?_
  have go : wpAny (model X.prog X.w) X.A (eval e X.env) (fun w s₂ => wpAny (model X.prog X.w) X.A (inplaceOp op u w) (fun r s₃ => wpAny (model X.prog X.w) X.A (storeName X.env x r) (fun _ => SP X pins D .next) X.xe s₃) X.xe s₂) X.xe s := by
    refine thn (he pins s σ H _ I h) fun w s1 ⟨y, H1, I1, r1, q1⟩ => ?_
    refine thn (ho pins s1 σ H1 v y u w _ I1 r r1 q1) fun z s2 ⟨zv, H2, I2, r2, q2⟩ => ?_
    exact store_ok I2 hN hi hx r2 (fun s3 I3 => ⟨_, H2, I3, q2⟩) hf
  rcases l with ⟨hk, hm⟩ | ⟨hk, c, hc, hcell⟩
  · exact wpAny_loadName_local I.ok.kind hk hn hm go
  · rcases hk with hk | hk
    · exact wpAny_loadName_cell I.ok.kind hk hc hcell go
    · rcases hx with k | k
      · have : X.env.scope.names.lookup x = some .free := hk
        rw [k] at this; cases this
      · have : X.env.scope.names.lookup x = some .free := hk
        rw [k] at this; cases this
/-- o[i] op= e -/
def tAugS (to ti te : TE) (tget : V → V → Hp → VK → Prop) (tip : TIp) (tset : TSet) : TS := fun D σ H => to σ H fun o H1 => ti σ H1 fun i H2 => tget o i H2 fun x H3 => te σ H3 fun y H4 => tip x y H4 fun z H5 => tset o i z H5 fun H6 => D.nx σ H6
/-- o[i], by values -/
def PGet (X : Cx) (t : V → V → Hp → VK → Prop) : Prop :=
  ∀ (pins : List (Addr × Obj)) (s : Shared) (σ : St) (H : Hp) (o i : V) (ov iv : Value) (Q : VK), Inv X pins σ H s → RelV o ov → RelV i iv → t o i H Q →
    wpAny (model X.prog X.w) X.A (getItem ov iv) (EP X pins σ Q) X.xe s
theorem ps_augS {o i e : Expr} {to ti te : TE} {tget : V → V → Hp → VK → Prop} {tip : TIp} {tset : TSet} {op : Operator} {tpos : Pos} (ho : PE X o to) (hi : PE X i ti) (hg : PGet X tget) (he : PE X e te) (hp : PIp X op tip) (hs : PSet X tset)
    (ha : ∀ ov iv new, augStore i ov iv new = (do holding [new, ov, iv] (setItem ov iv new); release [new, ov, iv] []; pure .next) := by intros; rfl) : PS X (.AugAssign (.Subscript o i tpos) op e pos) (tAugS to ti te tget tip tset) := by
  intro pins s σ H D I h
  refine wpAny_AugAssign_SubscriptAny (thn (ho pins s σ H _ I h) fun ov s1 ⟨x1, H1, I1, r1, q1⟩ => ?_) ha
  refine thn (hi pins s1 σ H1 _ I1 q1) fun iv s2 ⟨x2, H2, I2, r2, q2⟩ => ?_
  refine thn (hg pins s2 σ H2 x1 x2 ov iv _ I2 r1 r2 q2) fun old s3 ⟨x3, H3, I3, r3, q3⟩ => ?_
  refine thn (he pins s3 σ H3 _ I3 q3) fun v s4 ⟨x4, H4, I4, r4, q4⟩ => ?_
  refine thn (hp pins s4 σ H4 x3 x4 old v _ I4 r3 r4 q4) fun new s5 ⟨x5, H5, I5, r5, q5⟩ => ?_
  exact thn (hs pins s5 σ H5 x1 x2 x5 ov iv new _ I5 r1 r2 r5 q5) fun _ s6 ⟨H6, I6, q6⟩ => ⟨σ, H6, I6, q6⟩
/-- ints -/
def ipI (f : Int → Int → Int) : TIp := fun x y H Q => ∃ i j, x = .int i ∧ y = .int j ∧ Q (.int (f i j)) H
theorem ip_add : PIp X .Add (ipI fun i j => i + j) := by
  intro pins s σ H x y v u Q I r1 r2 h
  obtain ⟨i, j, e1, e2, q⟩ := h
  subst e1; subst e2
  obtain ⟨t, rfl⟩ := r1
  obtain ⟨t', rfl⟩ := r2
  exact iadd_int ⟨.int _, H, I.tok _, ⟨_, rfl⟩, q⟩
theorem ip_sub : PIp X .Sub (ipI fun i j => i - j) := by
  intro pins s σ H x y v u Q I r1 r2 h
  obtain ⟨i, j, e1, e2, q⟩ := h
  subst e1; subst e2
  obtain ⟨t, rfl⟩ := r1
  obtain ⟨t', rfl⟩ := r2
  exact isub_int ⟨.int _, H, I.tok _, ⟨_, rfl⟩, q⟩
end

/-! ### while -/
section
variable {X : Cx} {pos : Pos}
/-- the invariant W with its measure -/
def tWhile (c : TT) (tb : TS) : TS := fun D σ H => ∃ W : Nat → St → Hp → Prop, (∃ m, W m σ H) ∧ ∀ m σ H, W m σ H →
  c σ H fun b H1 => if b = true then ∃ N : St → Hp → Prop, (∀ σ' H', N σ' H' → ∃ m', m' < m ∧ W m' σ' H') ∧ tb { D with nx := N, ct := N, bk := D.nx } σ H1 else D.nx σ H1
theorem ps_while {c : Expr} {body : List Stmt} {tc : TT} {tb : TS} (hp : PassesOwn (model X.prog X.w) X.A X.env X.xe) (hc : PT X c tc) (hb : PSs X body tb) : PS X (.While c body [] pos) (tWhile tc tb) := by
  intro pins s σ H D I h
  obtain ⟨W, ⟨m0, w0⟩, turn⟩ := h
  refine wpAny_While (codeAny_whileLoop (fun n s' => ∃ σ' H', Inv X pins σ' H' s' ∧ W n σ' H') ?_ m0 ⟨σ, H, I, w0⟩)
  rintro n s1 ⟨σ1, H1, I1, w1⟩
  refine wpAny_passesOwn hp (thn (hc pins s1 σ1 H1 _ I1 (turn n σ1 H1 w1)) fun b s2 ⟨H2, I2, q2⟩ => ?_)
  cases b with
  | true =>
    obtain ⟨N, hN, q2⟩ := q2
    rw [if_pos rfl]
    refine wpAny_passesOwn hp (thn (hb pins s2 σ1 H2 _ I2 q2) fun f s3 q3 => ?_)
    cases f with
    | next =>
      obtain ⟨σ3, H3, I3, n3⟩ := q3
      obtain ⟨m', hm, w3⟩ := hN σ3 H3 n3
      exact ⟨m', hm, σ3, H3, I3, w3⟩
    | cont =>
      obtain ⟨σ3, H3, I3, n3⟩ := q3
      obtain ⟨m', hm, w3⟩ := hN σ3 H3 n3
      exact ⟨m', hm, σ3, H3, I3, w3⟩
    | brk => exact q3
    | ret v => exact q3
  | false =>
    rw [if_neg Bool.false_ne_true]
    exact wpAny_execs_nil ⟨σ1, H2, I2, q2⟩
end

/-! ### what a loop or a comprehension walks -/
/-- at turn i: it yields x (the heap may grow), or it stops -/
structure It where
  go : Nat → Hp → Prop
  yld : Nat → Hp → V → Hp → Prop
  stop : Nat → Hp → Prop
/-- the iterator's own objects may turn: they are not the frame's, not pinned, younger than the entry (or a comprehension's own) -/
def FpOk (X : Cx) (pins : List (Addr × Obj)) (H : Hp) (b : Addr) : Prop :=
  H b = none ∧ b ≠ X.env.locals ∧ b ∉ X.fs ∧ (b ∈ X.ex ∨ X.s₀.heap.objs.size ≤ b) ∧ (∀ x c, X.env.cells.lookup x = some c → c ≠ b) ∧ ∀ p ∈ X.pn ++ pins, p.1 ≠ b
theorem Inv.fpOk {X : Cx} {pins : List (Addr × Obj)} {σ : St} {H H' : Hp} {s : Shared} {b : Addr} (I : Inv X pins σ H s) (hb : s.heap.objs.size ≤ b) (hn : H' b = none) : FpOk X pins H' b := by
  refine ⟨hn, Nat.ne_of_gt (Nat.lt_of_lt_of_le I.lt hb), I.nofs hb, .inr (Nat.le_trans I.sz hb), fun x c e z => ?_, fun p hp z => ?_⟩
  · obtain ⟨v, q⟩ := I.cell x c e
    exact absurd (Nat.lt_of_lt_of_le q.lt (by rw [z]; exact hb)) (Nat.lt_irrefl _)
  · exact absurd (Nat.lt_of_lt_of_le (Heap.lt_size (I.pin p hp).1) (by rw [z]; exact hb)) (Nat.lt_irrefl _)
structure Turn (P : Program) (w : World) (K : PySem.W.Frag) (tg : Expr) (J : It) (fp : List Addr) (it : Addr) (tn : Nat → Heap → Prop) : Prop where
  mem : it ∈ fp
  obj : ∀ i h, tn i h → ∀ b ∈ fp, ∃ o, h.get? b = some o ∧ ∀ v, o.data ≠ .cell v
  keep : ∀ i h h', tn i h → (∀ b ∈ fp, ∀ o, h.get? b = some o → h'.get? b = some o) → tn i h'
  item : ∀ (X : Cx), X.prog = P → X.w = w → X.K = K → X.calm = true → ∀ (i : Nat) (pins : List (Addr × Obj)) (s : Shared) (σ : St) (H : Hp) (E : Value → Shared → Prop), Inv X pins σ H s → (∀ b ∈ fp, FpOk X pins H b) → tn i s.heap → J.go i H →
    wpAny (model P w) X.A (pyNext (.ref it)) (fun r s1 => ∃ u, r = some u ∧
      wpAny (model P w) X.A (letOwnedTupleGo tg (.ref it) u) (fun _ s2 => ∃ x H', Inv X pins σ H' s2 ∧ RelV x u ∧ J.yld i H x H' ∧ tn (i + 1) s2.heap ∧ ∀ b ∈ fp, H' b = none) E s1) E s
  done : ∀ (X : Cx), X.prog = P → X.w = w → X.K = K → X.calm = true → ∀ (i : Nat) (pins : List (Addr × Obj)) (s : Shared) (σ : St) (H : Hp) (E : Value → Shared → Prop), Inv X pins σ H s → (∀ b ∈ fp, FpOk X pins H b) → tn i s.heap → J.stop i H →
    wpAny (model P w) X.A (pyNext (.ref it)) (fun r s1 => r = none ∧ Inv X pins σ H s1) E s
  self : ∀ (A : Around) (i : Nat) (s : Shared) (Q : Value → Shared → Prop) (E : Value → Shared → Prop), tn i s.heap → Q (.ref it) s → wpAny (model P w) A (pyIter (.ref it)) Q E s
abbrev TI := St → Hp → (It → Hp → Prop) → Prop
/-- an iterator has come -/
def PIE (X : Cx) (pins : List (Addr × Obj)) (σ : St) (tg : Expr) (R : It → Hp → Prop) (itv : Value) (s2 : Shared) : Prop :=
  ∃ (it : Addr) (fp : List Addr) (tn : Nat → Heap → Prop) (J : It) (H' : Hp), itv = .ref it ∧ Inv X pins σ H' s2 ∧ Turn X.prog X.w X.K tg J fp it tn ∧ tn 0 s2.heap ∧ (∀ b ∈ fp, FpOk X pins H' b) ∧ R J H'
def PI (X : Cx) (tg iter : Expr) (wi : TI) : Prop :=
  ∀ (pins : List (Addr × Obj)) (s : Shared) (σ : St) (H : Hp) (R : It → Hp → Prop), Inv X pins σ H s → wi σ H R →
    wpAny (model X.prog X.w) X.A (eval iter X.env) (fun v s1 => wpAny (model X.prog X.w) X.A (pyIter v) (PIE X pins σ tg R) X.xe s1) X.xe s

/-- the step ahead of the store is nothing for an iterator that keeps no tuple -/
theorem go_of {M : Model} {A : Around} {E : Value → Shared → Prop} {s : Shared} {tg : Expr} {it : Addr} {u : Value} {o : Obj} {n : String} {vs : Array Value} {Q : Unit → Shared → Prop} (ho : s.heap.get? it = some o) (hc : o.cls = .type n) (hd : o.data = .fields vs)
    (hn : ["enumerate", "zip", "dict_itemiterator", "dict_reverseitemiterator", "odict_iterator", "itertools.zip_longest", "itertools.pairwise"].contains n = false) (hQ : Q () s) : wpAny M A (letOwnedTupleGo tg (.ref it) u) Q E s := by
  unfold letOwnedTupleGo
  cases tg <;> first
    | exact wpAny_pure hQ
    | (cases u <;> first
        | exact wpAny_pure hQ
        | (refine wpAny_bind (wpAny_load ho ?_)
           rw [hc, hd]
           show wpAny M A (if (["enumerate", "zip", "dict_itemiterator", "dict_reverseitemiterator", "odict_iterator", "itertools.zip_longest", "itertools.pairwise"].contains n && vs[0]? == some (rawInt _)) = true then _ else _) Q E s
           rw [if_neg (by intro h; rw [hn, Bool.false_and] at h; cases h)]
           exact wpAny_pure hQ))

/-- the list at a, as it stands at each turn (a loop may append to it) -/
def Itl (K : PySem.W.Frag) (a : Addr) : It :=
  ⟨fun i H => ∃ xs x, SqL K H a xs ∧ xs[i]? = some x, fun i H x H' => H' = H ∧ ∀ xs, SqL K H a xs → xs[i]? = some x, fun i H => ∃ xs, SqL K H a xs ∧ xs.length ≤ i⟩
def Itt (K : PySem.W.Frag) (a : Addr) : It :=
  ⟨fun i H => ∃ xs x, SqT K H a xs ∧ xs[i]? = some x, fun i H x H' => H' = H ∧ ∀ xs, SqT K H a xs → xs[i]? = some x, fun i H => ∃ xs, SqT K H a xs ∧ xs.length ≤ i⟩
/-- lo, lo + 1, .. (n of them) -/
def Itr (lo : Int) (n : Nat) : It := ⟨fun i _ => i < n, fun i H x H' => H' = H ∧ x = .int (lo + i), fun i _ => n ≤ i⟩
theorem turn_list {P : Program} {w : World} {K : PySem.W.Frag} {tg : Expr} (a it : Addr) : Turn P w K tg (Itl K a) [it] it (fun i h => h.IsListIter it a i) where
  mem := by simp
  obj := fun i h st b hb => by
    have e : b = it := by simpa using hb
    subst e
    obtain ⟨o, e, c, d⟩ := st
    exact ⟨o, e, fun v z => by rw [d] at z; cases z⟩
  keep := fun i h h' st k => st.at fun o e => k it (by simp) o e
  item := by
    intro X hP hw hK hc i pins s σ H E I hf st hg
    subst hP hw hK
    obtain ⟨xs, x, hq, hx⟩ := hg
    obtain ⟨its, rv, p, hz⟩ := I.list hq
    obtain ⟨u, hu, ru⟩ := rv.get hx
    obtain ⟨f0, f1, f2, f3, f4, f5⟩ := hf it (by simp)
    refine wpAny_pyNext_list_item st p.isList (x := u) (by simpa using hu) fun h' st' sb => ?_
    have I1 : Inv X pins σ H { s with heap := h' } := I.turned (t' := s.toks) (fun b o hb e => (sb.2 b hb).trans e) f0 f1 f3 f4 f5
    obtain ⟨o, e, c, d⟩ := id st'
    exact ⟨u, rfl, go_of (s := { s with heap := h' }) e c d (by decide) ⟨x, H, I1, ru, ⟨rfl, fun ys hy => by rw [I.list_inj hy hq]; exact hx⟩, st', fun b hb => (hf b hb).1⟩⟩
  done := by
    intro X hP hw hK hc i pins s σ H E I hf st hg
    subst hP hw hK
    obtain ⟨xs, hq, hx⟩ := hg
    obtain ⟨its, rv, p, hz⟩ := I.list hq
    obtain ⟨f0, f1, f2, f3, f4, f5⟩ := hf it (by simp)
    have hl := rv.length
    exact wpAny_pyNext_list_end (I.ok.hd hc) st p.isList (by simp; omega) fun h' eb => ⟨rfl, I.turned (t' := s.toks) (fun b o hb e => eb b o hb e) f0 f1 f3 f4 f5⟩
  self := fun _ _ _ _ _ st h => wpAny_pyIter_listiter st h
theorem turn_tuple {P : Program} {w : World} {K : PySem.W.Frag} {tg : Expr} (a it : Addr) : Turn P w K tg (Itt K a) [it] it (fun i h => h.IsTupleIter it a i) where
  mem := by simp
  obj := fun i h st b hb => by
    have e : b = it := by simpa using hb
    subst e
    obtain ⟨o, e, c, d⟩ := st
    exact ⟨o, e, fun v z => by rw [d] at z; cases z⟩
  keep := fun i h h' st k => st.at fun o e => k it (by simp) o e
  item := by
    intro X hP hw hK hc i pins s σ H E I hf st hg
    subst hP hw hK
    obtain ⟨xs, x, hq, hx⟩ := hg
    obtain ⟨its, rv, p, hz⟩ := I.tuple hq
    obtain ⟨u, hu, ru⟩ := rv.get hx
    obtain ⟨f0, f1, f2, f3, f4, f5⟩ := hf it (by simp)
    refine wpAny_pyNext_tuple_item st (show s.heap.IsTuple a its.toArray from p) (x := u) (by simpa using hu) fun h' st' sb => ?_
    have I1 : Inv X pins σ H { s with heap := h' } := I.turned (t' := s.toks) (fun b o hb e => (sb.2 b hb).trans e) f0 f1 f3 f4 f5
    obtain ⟨o, e, c, d⟩ := id st'
    exact ⟨u, rfl, go_of (s := { s with heap := h' }) e c d (by decide) ⟨x, H, I1, ru, ⟨rfl, fun ys hy => by rw [I.tuple_inj hy hq]; exact hx⟩, st', fun b hb => (hf b hb).1⟩⟩
  done := by
    intro X hP hw hK hc i pins s σ H E I hf st hg
    subst hP hw hK
    obtain ⟨xs, hq, hx⟩ := hg
    obtain ⟨its, rv, p, hz⟩ := I.tuple hq
    obtain ⟨f0, f1, f2, f3, f4, f5⟩ := hf it (by simp)
    have hl := rv.length
    exact wpAny_pyNext_tuple_end (I.ok.hd hc) st (show s.heap.IsTuple a its.toArray from p) (by simp; omega) fun h' eb => ⟨rfl, I.turned (t' := s.toks) (fun b o hb e => eb b o hb e) f0 f1 f3 f4 f5⟩
  self := fun _ _ _ _ _ st h => wpAny_pyIter_tupleiter st h
theorem turn_range {P : Program} {w : World} {K : PySem.W.Frag} {tg : Expr} (it : Addr) (lo : Int) (n : Nat) : Turn P w K tg (Itr lo n) [it] it (fun i h => IsRangeIter h it (lo + (i : Nat) * 1) ((n : Int) - (i : Nat)) 1) where
  mem := by simp
  obj := fun i h st b hb => by
    have e : b = it := by simpa using hb
    subst e
    exact ⟨_, st, fun v z => by
      have z' : Data.fields _ = Data.cell v := z
      cases z'⟩
  keep := fun i h h' st k => k it (by simp) _ st
  item := by
    intro X hP hw hK hc i pins s σ H E I hf st hg
    subst hP hw hK
    obtain ⟨f0, f1, f2, f3, f4, f5⟩ := hf it (by simp)
    have W := Walks.range (prog := X.prog) (w := X.w) (I.ok.hd hc) it lo 1 n
    refine W.item i s _ _ hg st fun v h' tk hv st' kk => ?_
    obtain ⟨t, rfl⟩ := hv
    have I1 : Inv X pins σ H { s with heap := h', toks := tk } := I.turned (fun b o hb e => kk b o (by simpa using hb) e) f0 f1 f3 f4 f5
    refine ⟨_, rfl, go_of (s := { s with heap := h', toks := tk }) (n := "range_iterator") st' rfl rfl (by decide) ⟨.int (lo + i), H, I1, ⟨t, ?_⟩, ⟨rfl, rfl⟩, st', fun b hb => (hf b hb).1⟩⟩
    rw [Int.mul_one]
  done := by
    intro X hP hw hK hc i pins s σ H E I hf st hg
    subst hP hw hK
    obtain ⟨f0, f1, f2, f3, f4, f5⟩ := hf it (by simp)
    exact wpAny_pyNext_range_end (I.ok.hd hc) st (by have : n ≤ i := hg; omega) fun h' eb => ⟨rfl, I.turned (t' := s.toks) (fun b o hb e => eb b o hb e) f0 f1 f3 f4 f5⟩
  self := fun _ _ _ _ _ st h => wpAny_pyIter_rangeiter st h
end L2

namespace L2
open PySem PySem.Spec PyProof.Rows
section
variable {X : Cx} {tg : Expr}
def iList (K : PySem.W.Frag) (tl : TE) : TI := fun σ H R => tl σ H fun x H1 => ∃ a, x = .ref a ∧ (∃ xs, SqL K H1 a xs) ∧ R (Itl K a) H1
def iTup (K : PySem.W.Frag) (tl : TE) : TI := fun σ H R => tl σ H fun x H1 => ∃ a, x = .ref a ∧ (∃ xs, SqT K H1 a xs) ∧ R (Itt K a) H1
theorem pi_list {l : Expr} {tl : TE} (hl : PE X l tl) : PI X tg l (iList X.K tl) := by
  intro pins s σ H R I h
  refine thn (hl pins s σ H _ I h) fun v s1 ⟨x, H1, I1, r1, q1⟩ => ?_
  obtain ⟨a, e, ⟨xs, hq⟩, q⟩ := q1
  subst e
  cases r1
  obtain ⟨its, rv, p, hz⟩ := I1.list hq
  refine wpAny_pyIter_list p.isList ?_
  refine ⟨s1.heap.objs.size, [s1.heap.objs.size], _, _, H1, rfl, I1.kept (t' := s1.toks) fun b o e => Heap.get?_push_of_some _ e, turn_list a _, ⟨_, Heap.get?_push_size _ rfl, rfl, rfl⟩, fun b hb => ?_, q⟩
  have e : b = s1.heap.objs.size := by simpa using hb
  subst e
  exact I1.fpOk (Nat.le_refl _) (I1.hok.fresh (Nat.le_refl _))
theorem pi_tup {l : Expr} {tl : TE} (hl : PE X l tl) : PI X tg l (iTup X.K tl) := by
  intro pins s σ H R I h
  refine thn (hl pins s σ H _ I h) fun v s1 ⟨x, H1, I1, r1, q1⟩ => ?_
  obtain ⟨a, e, ⟨xs, hq⟩, q⟩ := q1
  subst e
  cases r1
  obtain ⟨its, rv, p, hz⟩ := I1.tuple hq
  refine wpAny_pyIter_tuple (show s1.heap.IsTuple a its.toArray from p) ?_
  refine ⟨s1.heap.objs.size, [s1.heap.objs.size], _, _, H1, rfl, I1.kept (t' := s1.toks) fun b o e => Heap.get?_push_of_some _ e, turn_tuple a _, ⟨_, Heap.get?_push_size _ rfl, rfl, rfl⟩, fun b hb => ?_, q⟩
  have e : b = s1.heap.objs.size := by simpa using hb
  subst e
  exact I1.fpOk (Nat.le_refl _) (I1.hok.fresh (Nat.le_refl _))
/-- a range object just made, walked -/
theorem range_it {pins : List (Addr × Obj)} {σ : St} {H : Hp} {s : Shared} {R : It → Hp → Prop} {E : Value → Shared → Prop} {lo hi : Int} {t u v : Tok} {tk : Nat} (I : Inv X pins σ H s) (h1 : -(2 ^ 62) ≤ lo) (h2 : lo < 2 ^ 62) (h3 : -(2 ^ 62) ≤ hi) (h4 : hi < 2 ^ 62)
    (q : R (Itr lo (hi - lo).toNat) H) : wpAny (model X.prog X.w) X.A (pyIter (.ref s.heap.objs.size)) (PIE X pins σ tg R) E { s with heap := s.heap.push { cls := .type "range", data := .fields #[.int lo t, .int hi u, .int 1 v] }, toks := tk } := by
  refine wpAny_pyIter_range (IsRange.new ..) (small_one h1 h2 h3 h4) ?_
  have I1 : Inv X pins σ H { s with heap := s.heap.push { cls := .type "range", data := .fields #[.int lo t, .int hi u, .int 1 v] }, toks := tk } := I.kept fun b o e => Heap.get?_push_of_some _ e
  refine ⟨(s.heap.push { cls := .type "range", data := .fields #[.int lo t, .int hi u, .int 1 v] }).objs.size, [(s.heap.push { cls := .type "range", data := .fields #[.int lo t, .int hi u, .int 1 v] }).objs.size], _, _, H, rfl,
    I1.kept (t' := tk) fun b o e => Heap.get?_push_of_some _ e, turn_range _ lo (hi - lo).toNat, ?_, fun b hb => ?_, q⟩
  · have e1 : lo + ((0 : Nat) : Int) * 1 = lo := by simp
    have e2 : (((hi - lo).toNat : Nat) : Int) - ((0 : Nat) : Int) = Builtin.Range.rangeSize lo hi 1 := by rw [rangeSize_one]; split <;> omega
    show IsRangeIter _ _ (lo + ((0 : Nat) : Int) * 1) ((((hi - lo).toNat : Nat) : Int) - ((0 : Nat) : Int)) 1
    rw [e1, e2]
    exact Heap.get?_push_size _ rfl
  · have e : b = (s.heap.push { cls := .type "range", data := .fields #[.int lo t, .int hi u, .int 1 v] }).objs.size := by simpa using hb
    subst e
    exact I1.fpOk (Nat.le_refl _) (I1.hok.fresh (Nat.le_refl _))
def iRng1 (ta : TA) : TI := fun σ H R => ta σ H fun vs H1 => ∃ j : Int, vs = [.int j] ∧ -(2 ^ 62) ≤ j ∧ j < 2 ^ 62 ∧ R (Itr 0 j.toNat) H1
def iRng2 (ta : TA) : TI := fun σ H R => ta σ H fun vs H1 => ∃ i j : Int, vs = [.int i, .int j] ∧ (-(2 ^ 62) ≤ i ∧ i < 2 ^ 62 ∧ -(2 ^ 62) ≤ j ∧ j < 2 ^ 62) ∧ R (Itr i (j - i).toNat) H1
theorem pi_range1 {a : Expr} {ta : TA} {p pos : Pos} (hg : Gl X "range") (hm : X.mg "range" = none) (ha : PA X [a] ta) (hs : starEach [a] X.env = [(false, eval a X.env)] := by rfl) : PI X tg (.Call (.Name "range" p) [a] [] pos) (iRng1 ta) := by
  intro pins s σ H R I h
  refine Call_ (ld_blt I hg hm boot_range (PyProof.Rows.callWith_type1 (thn (ha pos pins s σ H _ I h) fun us s1 ⟨vs, H1, I1, r1, q1⟩ => ?_) hs rfl))
  obtain ⟨j, e, q1, q2, q⟩ := q1
  subst e
  cases r1 with
  | cons r rr =>
    cases rr
    obtain ⟨t, rfl⟩ := r
    exact call_range_1 (range_it I1 (by omega) (by omega) q1 q2 (by simpa using q))
theorem pi_range2 {a b : Expr} {ta : TA} {p pos : Pos} (hg : Gl X "range") (hm : X.mg "range" = none) (ha : PA X [a, b] ta) (hs : starEach [a, b] X.env = [(false, eval a X.env), (false, eval b X.env)] := by rfl) (hs2 : starEach [b] X.env = [(false, eval b X.env)] := by rfl) :
    PI X tg (.Call (.Name "range" p) [a, b] [] pos) (iRng2 ta) := by
  intro pins s σ H R I h
  refine Call_ (ld_blt I hg hm boot_range (PyProof.Rows.callWith_type1 (thn (ha pos pins s σ H _ I h) fun us s1 ⟨vs, H1, I1, r1, q1⟩ => ?_) (by rw [hs, hs2]) (by rw [hs2]; rfl)))
  obtain ⟨i, j, e, ⟨q1, q2, q3, q4⟩, q⟩ := q1
  subst e
  cases r1 with
  | cons r rr =>
    cases rr with
    | cons r' rr =>
      cases rr
      obtain ⟨t, rfl⟩ := r
      obtain ⟨t', rfl⟩ := r'
      exact call_range_2 (range_it I1 q1 q2 q3 q4 q)

/-! ### for -/
/-- W: the invariant by the turn and a measure; N: what the body is to reach -/
def tFor (wi : TI) (g : TG) (tb : TS) : TS := fun D σ H => wi σ H fun J H1 => ∃ W : Nat → Nat → St → Hp → Prop, (∃ m, W 0 m σ H1) ∧ ∀ i m σ H, W i m σ H →
  (J.stop i H ∧ D.nx σ H) ∨ (J.go i H ∧ ∃ N : St → Hp → Prop, (∀ σ' H', N σ' H' → ∃ m', m' < m ∧ W (i + 1) m' σ' H') ∧ ∀ x H', J.yld i H x H' → g x σ H' fun σ2 H2 => tb { D with nx := N, ct := N, bk := D.nx } σ2 H2)
/-- the records at fp as they stand -/
def pinsAt (fp : List Addr) (h : Heap) : List (Addr × Obj) := fp.filterMap fun b => (h.get? b).map fun o => (b, o)
theorem mem_pinsAt {fp : List Addr} {h : Heap} {b : Addr} {o : Obj} (hb : b ∈ fp) (e : h.get? b = some o) : (b, o) ∈ pinsAt fp h := List.mem_filterMap.mpr ⟨b, hb, by rw [e]; rfl⟩
theorem of_pinsAt {fp : List Addr} {h : Heap} {p : Addr × Obj} (hp : p ∈ pinsAt fp h) : p.1 ∈ fp ∧ h.get? p.1 = some p.2 := by
  obtain ⟨b, hb, e⟩ := List.mem_filterMap.mp hp
  cases q : h.get? b with
  | none => rw [q] at e; cases e
  | some o =>
    rw [q] at e
    have e' : (b, o) = p := Option.some.inj e
    subst e'
    exact ⟨hb, q⟩
theorem Inv.pinned {pins : List (Addr × Obj)} {σ : St} {H : Hp} {s : Shared} {fp : List Addr} (I : Inv X pins σ H s) (hf : ∀ b ∈ fp, FpOk X pins H b) (ho : ∀ b ∈ fp, ∃ o, s.heap.get? b = some o ∧ ∀ v, o.data ≠ .cell v) : Inv X (pins ++ pinsAt fp s.heap) σ H s :=
  I.pins_of fun p hp => (List.mem_append.mp hp).elim (fun z => I.pin p (List.mem_append_right _ z)) fun z => by
    obtain ⟨hb, e⟩ := of_pinsAt z
    obtain ⟨f0, f1, f2, _⟩ := hf p.1 hb
    obtain ⟨o, e', d⟩ := ho p.1 hb
    rw [e] at e'; cases e'
    exact ⟨e, f0, f1, f2, d⟩
theorem Inv.unpinned {pins pl : List (Addr × Obj)} {σ : St} {H : Hp} {s : Shared} (I : Inv X (pins ++ pl) σ H s) : Inv X pins σ H s := I.pins_of fun p hp => I.pin p (List.mem_append_right _ (List.mem_append_left _ hp))
theorem ps_for {iter : Expr} {body : List Stmt} {wi : TI} {g : TG} {tb : TS} {pos : Pos} (hp : PassesOwn (model X.prog X.w) X.A X.env X.xe) (hc : X.calm = true) (hi : PI X tg iter wi) (hg : PG X tg g) (hb : PSs X body tb)
    (hs : ∀ x, foldedSetIterable iter X.env x = pure x := by intro _; rfl) : PS X (.For tg iter body [] pos) (tFor wi g tb) := by
  intro pins s σ H D I h
  refine wpAny_For (thn (hi pins s σ H _ I h) fun v s1 h1 => thn h1 fun itv s2 h2 => ?_) hs
  obtain ⟨it, fp, tn, J, H2, e, I2, T, st2, f2, W, ⟨m0, w0⟩, turn⟩ := h2
  subst e
  -- what stays true of the iterator's objects through the loop
  have stat : ∀ {H' : Hp}, (∀ b ∈ fp, H' b = none) → ∀ b ∈ fp, FpOk X pins H' b := fun hn b hb => ⟨hn b hb, (f2 b hb).2⟩
  refine codeAny_forLoop_any (fun n s' => ∃ i σ' H', Inv X pins σ' H' s' ∧ tn i s'.heap ∧ (∀ b ∈ fp, H' b = none) ∧ W i n σ' H') ?_ m0 ⟨0, σ, H2, I2, st2, fun b hb => (f2 b hb).1, w0⟩
  rintro n s3 ⟨i, σ3, H3, I3, st3, fr3, w3⟩
  rcases turn i n σ3 H3 w3 with ⟨stop, qn⟩ | ⟨go, N, hN, step⟩
  · refine wpAny_passesOwn hp (thn (T.done X rfl rfl rfl hc i pins s3 σ3 H3 X.xe I3 (stat fr3) st3 stop) fun r s4 ⟨hr, I4⟩ => ?_)
    subst hr
    exact wpAny_execs_nil ⟨σ3, H3, I4, qn⟩
  · refine wpAny_passesOwn hp (thn (T.item X rfl rfl rfl hc i pins s3 σ3 H3 X.xe I3 (stat fr3) st3 go) fun r s4 ⟨u, hr, h4⟩ => ?_)
    subst hr
    refine wpAny_passesOwn hp (thn h4 fun _ s5 ⟨x, H5, I5, r5, y5, st5, fr5⟩ => ?_)
    have I5' := I5.pinned (stat fr5) (T.obj _ _ st5)
    refine wpAny_passesOwn hp (thn (hg _ s5 σ3 H5 x u _ I5' r5 (step x H5 y5)) fun _ s6 ⟨σ6, H6, I6, q6⟩ => ?_)
    refine wpAny_passesOwn hp (thn (hb _ s6 σ6 H6 _ I6 q6) fun f s7 q7 => ?_)
    have again : ∀ {σ7 : St} {H7 : Hp}, Inv X (pins ++ pinsAt fp s5.heap) σ7 H7 s7 → N σ7 H7 → ∃ m, m < n ∧ ∃ i σ' H', Inv X pins σ' H' s7 ∧ tn i s7.heap ∧ (∀ b ∈ fp, H' b = none) ∧ W i m σ' H' := fun {σ7 H7} I7 n7 => by
      obtain ⟨m', hm, w7⟩ := hN σ7 H7 n7
      refine ⟨m', hm, i + 1, σ7, H7, I7.unpinned, T.keep _ _ _ st5 fun b hb o e => (I7.pin (b, o) (List.mem_append_right _ (List.mem_append_right _ (mem_pinsAt hb e)))).1, fun b hb => ?_, w7⟩
      obtain ⟨o, e, d⟩ := T.obj _ _ st5 b hb
      exact (I7.pin (b, o) (List.mem_append_right _ (List.mem_append_right _ (mem_pinsAt hb e)))).2.1
    cases f with
    | next => obtain ⟨σ7, H7, I7, n7⟩ := q7; exact again I7 n7
    | cont => obtain ⟨σ7, H7, I7, n7⟩ := q7; exact again I7 n7
    | brk => obtain ⟨σ7, H7, I7, q7⟩ := q7; exact ⟨σ7, H7, I7.unpinned, q7⟩
    | ret v => obtain ⟨x7, σ7, H7, I7, r7, q7⟩ := q7; exact ⟨x7, σ7, H7, I7.unpinned, r7, q7⟩
end

/-! ### the forms one uses -/
/-- over a list that the body leaves as it is -/
theorem for_list {K : PySem.W.Frag} {a : Addr} {xs : List V} {g : TG} {tb : TS} {D : Ends} {σ : St} {H : Hp} (Pv : Nat → St → Hp → Prop) (h0 : Pv 0 σ H) (hl : ∀ i σ H, i ≤ xs.length → Pv i σ H → SqL K H a xs)
    (hs : ∀ i x σ H, xs[i]? = some x → Pv i σ H → g x σ H fun σ2 H2 => tb { D with nx := Pv (i + 1), ct := Pv (i + 1), bk := D.nx } σ2 H2) (hd : ∀ σ H, Pv xs.length σ H → D.nx σ H) :
    ∃ W : Nat → Nat → St → Hp → Prop, (∃ m, W 0 m σ H) ∧ ∀ i m σ H, W i m σ H →
      ((Itl K a).stop i H ∧ D.nx σ H) ∨ ((Itl K a).go i H ∧ ∃ N : St → Hp → Prop, (∀ σ' H', N σ' H' → ∃ m', m' < m ∧ W (i + 1) m' σ' H') ∧ ∀ x H', (Itl K a).yld i H x H' → g x σ H' fun σ2 H2 => tb { D with nx := N, ct := N, bk := D.nx } σ2 H2) := by
  refine ⟨fun i m σ H => m = xs.length - i ∧ i ≤ xs.length ∧ Pv i σ H, ⟨xs.length, by simp, Nat.zero_le _, h0⟩, ?_⟩
  rintro i m σ H ⟨rfl, hi, p⟩
  have q := hl i σ H hi p
  by_cases hlt : i < xs.length
  · refine .inr ⟨⟨xs, xs[i], q, by simp [hlt]⟩, Pv (i + 1), fun σ' H' p' => ⟨xs.length - (i + 1), by omega, rfl, hlt, p'⟩, fun x H' y => ?_⟩
    obtain ⟨e, y⟩ := y
    subst e
    exact hs i x σ _ (y xs q) p
  · have e : i = xs.length := by omega
    subst e
    exact .inl ⟨⟨xs, q, Nat.le_refl _⟩, hd σ H p⟩
theorem for_tup {K : PySem.W.Frag} {a : Addr} {xs : List V} {g : TG} {tb : TS} {D : Ends} {σ : St} {H : Hp} (Pv : Nat → St → Hp → Prop) (h0 : Pv 0 σ H) (hl : ∀ i σ H, i ≤ xs.length → Pv i σ H → SqT K H a xs)
    (hs : ∀ i x σ H, xs[i]? = some x → Pv i σ H → g x σ H fun σ2 H2 => tb { D with nx := Pv (i + 1), ct := Pv (i + 1), bk := D.nx } σ2 H2) (hd : ∀ σ H, Pv xs.length σ H → D.nx σ H) :
    ∃ W : Nat → Nat → St → Hp → Prop, (∃ m, W 0 m σ H) ∧ ∀ i m σ H, W i m σ H →
      ((Itt K a).stop i H ∧ D.nx σ H) ∨ ((Itt K a).go i H ∧ ∃ N : St → Hp → Prop, (∀ σ' H', N σ' H' → ∃ m', m' < m ∧ W (i + 1) m' σ' H') ∧ ∀ x H', (Itt K a).yld i H x H' → g x σ H' fun σ2 H2 => tb { D with nx := N, ct := N, bk := D.nx } σ2 H2) := by
  refine ⟨fun i m σ H => m = xs.length - i ∧ i ≤ xs.length ∧ Pv i σ H, ⟨xs.length, by simp, Nat.zero_le _, h0⟩, ?_⟩
  rintro i m σ H ⟨rfl, hi, p⟩
  have q := hl i σ H hi p
  by_cases hlt : i < xs.length
  · refine .inr ⟨⟨xs, xs[i], q, by simp [hlt]⟩, Pv (i + 1), fun σ' H' p' => ⟨xs.length - (i + 1), by omega, rfl, hlt, p'⟩, fun x H' y => ?_⟩
    obtain ⟨e, y⟩ := y
    subst e
    exact hs i x σ _ (y xs q) p
  · have e : i = xs.length := by omega
    subst e
    exact .inl ⟨⟨xs, q, Nat.le_refl _⟩, hd σ H p⟩
theorem for_range {lo : Int} {n : Nat} {g : TG} {tb : TS} {D : Ends} {σ : St} {H : Hp} (Pv : Nat → St → Hp → Prop) (h0 : Pv 0 σ H)
    (hs : ∀ i σ H, i < n → Pv i σ H → g (.int (lo + i)) σ H fun σ2 H2 => tb { D with nx := Pv (i + 1), ct := Pv (i + 1), bk := D.nx } σ2 H2) (hd : ∀ σ H, Pv n σ H → D.nx σ H) :
    ∃ W : Nat → Nat → St → Hp → Prop, (∃ m, W 0 m σ H) ∧ ∀ i m σ H, W i m σ H →
      ((Itr lo n).stop i H ∧ D.nx σ H) ∨ ((Itr lo n).go i H ∧ ∃ N : St → Hp → Prop, (∀ σ' H', N σ' H' → ∃ m', m' < m ∧ W (i + 1) m' σ' H') ∧ ∀ x H', (Itr lo n).yld i H x H' → g x σ H' fun σ2 H2 => tb { D with nx := N, ct := N, bk := D.nx } σ2 H2) := by
  refine ⟨fun i m σ H => m = n - i ∧ i ≤ n ∧ Pv i σ H, ⟨n, by simp, Nat.zero_le _, h0⟩, ?_⟩
  rintro i m σ H ⟨rfl, hi, p⟩
  by_cases hlt : i < n
  · refine .inr ⟨hlt, Pv (i + 1), fun σ' H' p' => ⟨n - (i + 1), by omega, rfl, hlt, p'⟩, fun x H' y => ?_⟩
    obtain ⟨e, y⟩ := y
    subst e y
    exact hs i σ _ hlt p
  · have e : i = n := by omega
    subst e
    exact .inl ⟨Nat.le_refl _, hd σ H p⟩
/-- while, by a word and a measure of the state -/
theorem while_by {c : TT} {tb : TS} {D : Ends} {σ : St} {H : Hp} (Pv : St → Hp → Prop) (μ : St → Hp → Nat) (h0 : Pv σ H)
    (hs : ∀ σ H, Pv σ H → c σ H fun b H1 => if b = true then tb { D with nx := fun σ' H' => Pv σ' H' ∧ μ σ' H' < μ σ H, ct := fun σ' H' => Pv σ' H' ∧ μ σ' H' < μ σ H, bk := D.nx } σ H1 else D.nx σ H1)
    (mono : ∀ σ H Q Q', (∀ b H1, Q b H1 → Q' b H1) → c σ H Q → c σ H Q') : tWhile c tb D σ H := by
  refine ⟨fun m σ H => m = μ σ H ∧ Pv σ H, ⟨_, rfl, h0⟩, ?_⟩
  rintro m σ H ⟨rfl, p⟩
  refine mono σ H _ _ (fun b H1 q => ?_) (hs σ H p)
  cases b with
  | true => exact ⟨_, fun σ' H' ⟨p', l⟩ => ⟨_, l, rfl, p'⟩, q⟩
  | false => exact q
end L2

namespace L2
open PySem PySem.Spec PyProof.Rows

abbrev R2 := V → V → Hp → VK → Prop
/-- a two-place operation on values: f is binaryOp op, inplaceOp op or compareOp op -/
def OpR (X : Cx) (f : Value → Value → Sem Value) (r : R2) : Prop :=
  ∀ (pins : List (Addr × Obj)) (s : Shared) (σ : St) (H : Hp) (x y : V) (v u : Value) (Q : VK), Inv X pins σ H s → RelV x v → RelV y u → r x y H Q →
    wpAny (model X.prog X.w) X.A (f v u) (EP X pins σ Q) X.xe s
/-- a one-place operation -/
def UnR (X : Cx) (f : Value → Sem Value) (r : V → Hp → VK → Prop) : Prop :=
  ∀ (pins : List (Addr × Obj)) (s : Shared) (σ : St) (H : Hp) (x : V) (v : Value) (Q : VK), Inv X pins σ H s → RelV x v → r x H Q →
    wpAny (model X.prog X.w) X.A (f v) (EP X pins σ Q) X.xe s
/-- a call of a value that is known (a builtin, a type) with values -/
def CallR (X : Cx) (f : Value) (r : List V → Hp → VK → Prop) : Prop :=
  ∀ (pins : List (Addr × Obj)) (s : Shared) (σ : St) (H : Hp) (xs : List V) (us : List Value) (Q : VK), Inv X pins σ H s → Vals xs us → r xs H Q →
    wpAny (model X.prog X.w) X.A (call f us) (EP X pins σ Q) X.xe s
/-- a value's truth -/
def TruR (X : Cx) (r : V → Hp → (Bool → Hp → Prop) → Prop) : Prop :=
  ∀ (pins : List (Addr × Obj)) (s : Shared) (σ : St) (H : Hp) (x : V) (v : Value) (Q : Bool → Hp → Prop), Inv X pins σ H s → RelV x v → r x H Q →
    wpAny (model X.prog X.w) X.A (truthy v) (TP X pins σ Q) X.xe s

def tOp (r : R2) (ta tb : TE) : TE := fun σ H Q => ta σ H fun x H1 => tb σ H1 fun y H2 => r x y H2 Q
def tUn (r : V → Hp → VK → Prop) (ta : TE) : TE := fun σ H Q => ta σ H fun x H1 => r x H1 Q
/-- ints in, under C, and a value out -/
def rI (C : Int → Int → Prop) (g : Int → Int → V) : R2 := fun x y H Q => ∃ i j, x = .int i ∧ y = .int j ∧ C i j ∧ Q (g i j) H
def rI0 (g : Int → Int → V) : R2 := fun x y H Q => ∃ i j, x = .int i ∧ y = .int j ∧ Q (g i j) H
def rU (g : Int → V) : V → Hp → VK → Prop := fun x H Q => ∃ i, x = .int i ∧ Q (g i) H

section
variable {X : Cx} {a b c : Expr} {ta tb tc : TE} {pos : Pos}

theorem binT (ha : PE X a ta) (hb : PE X b tb) {pins : List (Addr × Obj)} {s : Shared} {σ : St} {H : Hp} {R : V → V → Hp → Prop} (I : Inv X pins σ H s)
    (h : ta σ H fun x H1 => tb σ H1 fun y H2 => R x y H2) {Q : Value → Shared → Prop} {f : Value → Value → Sem Value}
    (hf : ∀ v u s2 x y H2, Inv X pins σ H2 s2 → RelV x v → RelV y u → R x y H2 → wpAny (model X.prog X.w) X.A (f v u) Q X.xe s2) :
    wpAny (model X.prog X.w) X.A (eval a X.env) (fun v s₁ => wpAny (model X.prog X.w) X.A (eval b X.env) (fun u s₂ => wpAny (model X.prog X.w) X.A (f v u) Q X.xe s₂) X.xe s₁) X.xe s := by
  refine thn (ha pins s σ H _ I h) fun v s1 ⟨x, H1, I1, r1, q1⟩ => ?_
  refine thn (hb pins s1 σ H1 _ I1 q1) fun u s2 ⟨y, H2, I2, r2, q2⟩ => ?_
  exact hf v u s2 x y H2 I2 r1 r2 q2

theorem pe_op {op : Operator} {r : R2} (ho : OpR X (binaryOp op) r) (ha : PE X a ta) (hb : PE X b tb) : PE X (.BinOp a op b pos) (tOp r ta tb) := by
  intro pins s σ H Q I h
  exact wpAny_BinOp (binT ha hb I h fun v u s2 x y H2 I2 rx ry q => ho pins s2 σ H2 x y v u Q I2 rx ry q)
theorem pe_un {op : UnaryOp} {r : V → Hp → VK → Prop} (ho : UnR X (unaryOp op) r) (ha : PE X a ta) : PE X (.UnaryOp op a pos) (tUn r ta) := by
  intro pins s σ H Q I h
  exact UnaryOp_ (thn (ha pins s σ H _ I h) fun v s1 ⟨x, H1, I1, r1, q1⟩ => ho pins s1 σ H1 x v Q I1 r1 q1)
/-- a op= e at a name: the name's slot i -/
theorem augR {op : Operator} {r : R2} (ho : OpR X (inplaceOp op) r) {pins : List (Addr × Obj)} {s : Shared} {σ : St} {H : Hp} {x y : V} {v u : Value} {Q : VK} (I : Inv X pins σ H s)
    (rx : RelV x v) (ry : RelV y u) (q : r x y H Q) : wpAny (model X.prog X.w) X.A (inplaceOp op v u) (EP X pins σ Q) X.xe s := ho pins s σ H x y v u Q I rx ry q

/-! ### ints -/
theorem opI {f : Value → Value → Sem Value} {C : Int → Int → Prop} {g : Int → Int → Int}
    (rule : ∀ (i j : Int) (t u : Tok) (s : Shared) (Q : Value → Shared → Prop) (E : Value → Shared → Prop), C i j → Q (.int (g i j) s.toks) { s with toks := s.toks + 1 } → wpAny (model X.prog X.w) X.A (f (.int i t) (.int j u)) Q E s) :
    OpR X f (rI C fun i j => .int (g i j)) := by
  intro pins s σ H x y v u Q I rx ry h
  obtain ⟨i, j, rfl, rfl, hc, q⟩ := h
  obtain ⟨t, rfl⟩ := rx
  obtain ⟨t', rfl⟩ := ry
  exact rule i j t t' s _ _ hc ⟨.int (g i j), H, I.tok _, ⟨_, rfl⟩, q⟩
theorem opI0 {f : Value → Value → Sem Value} {g : Int → Int → Int}
    (rule : ∀ (i j : Int) (t u : Tok) (s : Shared) (Q : Value → Shared → Prop) (E : Value → Shared → Prop), Q (.int (g i j) s.toks) { s with toks := s.toks + 1 } → wpAny (model X.prog X.w) X.A (f (.int i t) (.int j u)) Q E s) :
    OpR X f (rI0 fun i j => .int (g i j)) := by
  intro pins s σ H x y v u Q I rx ry h
  obtain ⟨i, j, rfl, rfl, q⟩ := h
  obtain ⟨t, rfl⟩ := rx
  obtain ⟨t', rfl⟩ := ry
  exact rule i j t t' s _ _ ⟨.int (g i j), H, I.tok _, ⟨_, rfl⟩, q⟩
theorem opB0 {f : Value → Value → Sem Value} {g : Int → Int → Bool}
    (rule : ∀ (i j : Int) (t u : Tok) (s : Shared) (Q : Value → Shared → Prop) (E : Value → Shared → Prop), Q (.bool (g i j)) s → wpAny (model X.prog X.w) X.A (f (.int i t) (.int j u)) Q E s) :
    OpR X f (rI0 fun i j => .bl (g i j)) := by
  intro pins s σ H x y v u Q I rx ry h
  obtain ⟨i, j, rfl, rfl, q⟩ := h
  obtain ⟨t, rfl⟩ := rx
  obtain ⟨t', rfl⟩ := ry
  exact rule i j t t' s _ _ ⟨.bl (g i j), H, I, rfl, q⟩

def CDiv (i j : Int) : Prop := 0 < j ∧ j < 1073741824
def CDivN (i j : Int) : Prop := j ≠ 0 ∧ j.natAbs < 1073741824
def CPow (i j : Int) : Prop := 0 ≤ j ∧ j ≤ 1000000 ∧ i.natAbs < 2 ^ 64
def CMul (i j : Int) : Prop := (-(2 ^ 64) < i ∧ i < 2 ^ 64) ∨ (-(2 ^ 64) < j ∧ j < 2 ^ 64)
theorem CMul.ok {i j : Int} (h : CMul i j) : IntMulOk i j := by
  rcases h with ⟨h1, h2⟩ | ⟨h1, h2⟩
  · exact .of_left (intBits_le_64 h1 h2)
  · exact .of_right (intBits_le_64 h1 h2)
theorem two_pow_nn (k : Nat) : (0 : Int) ≤ 2 ^ k := by
  rw [two_pow_cast]
  exact Int.natCast_nonneg _

theorem op_add : OpR X (binaryOp .Add) (rI0 fun i j => .int (i + j)) := opI0 fun _ _ _ _ _ _ _ q => add_int q
theorem op_sub : OpR X (binaryOp .Sub) (rI0 fun i j => .int (i - j)) := opI0 fun _ _ _ _ _ _ _ q => sub_int q
theorem op_mul : OpR X (binaryOp .Mult) (rI CMul fun i j => .int (i * j)) := opI fun _ _ _ _ _ _ _ hc q => mul_int q hc.ok
/-- // by a positive divisor -/
theorem op_fdiv : OpR X (binaryOp .FloorDiv) (rI CDiv fun i j => .int (i / j)) := opI fun i j _ _ _ _ _ hc q => by
  have h1 : (0 : Int) < j := hc.1
  have h2 : j < 1073741824 := hc.2
  exact floordiv_int (by omega) (by rw [Int.fdiv_eq_ediv_of_nonneg i (by omega)]; exact q) (.inl (PyProof.noPylong_small (by omega)))
theorem op_fdivN : OpR X (binaryOp .FloorDiv) (rI CDivN fun i j => .int (i.fdiv j)) := opI fun _ _ _ _ _ _ _ hc q => floordiv_int hc.1 q (.inl (PyProof.noPylong_small hc.2))
/-- % by a positive divisor of any size -/
theorem op_mod : OpR X (binaryOp .Mod) (rI (fun _ j => 0 < j) fun i j => .int (i % j)) := opI fun i j _ _ _ _ _ hc q => by
  have h1 : (0 : Int) < j := hc
  exact mod_int' (by omega) (by rw [Int.fmod_eq_emod_of_nonneg i (by omega)]; exact q)
theorem op_modN : OpR X (binaryOp .Mod) (rI (fun _ j => j ≠ 0) fun i j => .int (i.fmod j)) := opI fun _ _ _ _ _ _ _ hc q => mod_int' hc q
theorem op_pow : OpR X (binaryOp .Pow) (rI CPow fun i j => .int (i ^ j.toNat)) := opI fun _ _ _ _ _ _ _ hc q => pow_int_small hc.1 hc.2.1 hc.2.2 q
theorem op_shl : OpR X (binaryOp .LShift) (rI CPow fun i j => .int (i * 2 ^ j.toNat)) := opI fun _ _ _ _ _ _ _ hc q => lshift_int_small hc.1 hc.2.1 hc.2.2 q
theorem op_shr : OpR X (binaryOp .RShift) (rI (fun _ j => 0 ≤ j) fun i j => .int (i / 2 ^ j.toNat)) := opI fun i j _ _ _ _ _ hc q =>
  rshift_int hc (by rw [Int.fdiv_eq_ediv_of_nonneg i (two_pow_nn _)]; exact q)
theorem op_and : OpR X (binaryOp .BitAnd) (rI0 fun i j => .int (Builtin.bitAnd i j)) := opI0 fun _ _ _ _ _ _ _ q => and_int q
theorem op_or : OpR X (binaryOp .BitOr) (rI0 fun i j => .int (Builtin.bitOr i j)) := opI0 fun _ _ _ _ _ _ _ q => or_int q
theorem op_xor : OpR X (binaryOp .BitXor) (rI0 fun i j => .int (Builtin.bitXor i j)) := opI0 fun _ _ _ _ _ _ _ q => xor_int q

theorem iop_add : OpR X (inplaceOp .Add) (rI0 fun i j => .int (i + j)) := opI0 fun _ _ _ _ _ _ _ q => iadd_int q
theorem iop_sub : OpR X (inplaceOp .Sub) (rI0 fun i j => .int (i - j)) := opI0 fun _ _ _ _ _ _ _ q => isub_int q
theorem iop_mul : OpR X (inplaceOp .Mult) (rI CMul fun i j => .int (i * j)) := opI fun _ _ _ _ _ _ _ hc q => imul_int q hc.ok
theorem iop_fdiv : OpR X (inplaceOp .FloorDiv) (rI CDiv fun i j => .int (i / j)) := opI fun i j _ _ _ _ _ hc q => by
  have h1 : (0 : Int) < j := hc.1
  have h2 : j < 1073741824 := hc.2
  exact ifloordiv_int (by omega) (by rw [Int.fdiv_eq_ediv_of_nonneg i (by omega)]; exact q) (.inl (PyProof.noPylong_small (by omega)))
theorem iop_mod : OpR X (inplaceOp .Mod) (rI (fun _ j => 0 < j) fun i j => .int (i % j)) := opI fun i j _ _ _ _ _ hc q => by
  have h1 : (0 : Int) < j := hc
  exact imod_int (by omega) (by rw [Int.fmod_eq_emod_of_nonneg i (by omega)]; exact q)
theorem iop_shl : OpR X (inplaceOp .LShift) (rI CPow fun i j => .int (i * 2 ^ j.toNat)) := opI fun _ _ _ _ _ _ _ hc q => ilshift_int_small hc.1 hc.2.1 hc.2.2 q
theorem iop_shr : OpR X (inplaceOp .RShift) (rI (fun _ j => 0 ≤ j) fun i j => .int (i / 2 ^ j.toNat)) := opI fun i j _ _ _ _ _ hc q =>
  irshift_int hc (by rw [Int.fdiv_eq_ediv_of_nonneg i (two_pow_nn _)]; exact q)
theorem iop_and : OpR X (inplaceOp .BitAnd) (rI0 fun i j => .int (Builtin.bitAnd i j)) := opI0 fun _ _ _ _ _ _ _ q => iand_int q
theorem iop_or : OpR X (inplaceOp .BitOr) (rI0 fun i j => .int (Builtin.bitOr i j)) := opI0 fun _ _ _ _ _ _ _ q => ior_int q
theorem iop_xor : OpR X (inplaceOp .BitXor) (rI0 fun i j => .int (Builtin.bitXor i j)) := opI0 fun _ _ _ _ _ _ _ q => ixor_int q

theorem unI {f : Value → Sem Value} {g : Int → Int}
    (rule : ∀ (i : Int) (t : Tok) (s : Shared) (Q : Value → Shared → Prop) (E : Value → Shared → Prop), Q (.int (g i) s.toks) { s with toks := s.toks + 1 } → wpAny (model X.prog X.w) X.A (f (.int i t)) Q E s) :
    UnR X f (rU fun i => .int (g i)) := by
  intro pins s σ H x v Q I rx h
  obtain ⟨i, rfl, q⟩ := h
  obtain ⟨t, rfl⟩ := rx
  exact rule i t s _ _ ⟨.int (g i), H, I.tok _, ⟨_, rfl⟩, q⟩
theorem un_neg : UnR X (unaryOp .USub) (rU fun i => .int (-i)) := unI fun _ _ _ _ _ q => neg_int q
theorem un_inv : UnR X (unaryOp .Invert) (rU fun i => .int (Builtin.bitNot i)) := unI fun _ _ _ _ _ q => invert_int q

/-! ### bools among ints: n += (a < b) -/
theorem op_add_ib : OpR X (binaryOp .Add) (fun x y H Q => ∃ i k, x = .int i ∧ y = .bl k ∧ Q (.int (i + b2i k)) H) := by
  intro pins s σ H x y v u Q I rx ry h
  obtain ⟨i, k, rfl, rfl, q⟩ := h
  obtain ⟨t, rfl⟩ := rx
  cases ry
  exact add_int_bool ⟨.int (i + b2i k), H, I.tok _, ⟨_, rfl⟩, q⟩
end

/-! ### comparisons -/
/-- the scalars that == tells apart as data does -/
def scal : V → V → Bool
  | .non, .non => true | .non, .int _ => true | .int _, .non => true | .non, .bl _ => true | .bl _, .non => true | .non, .str _ => true | .str _, .non => true
  | .int _, .int _ => true | .bl _, .bl _ => true | .str _, .str _ => true | .byt _, .byt _ => true
  | .int _, .str _ => true | .str _, .int _ => true | .bl _, .str _ => true | .str _, .bl _ => true
  | _, _ => false
def rEq : R2 := fun x y H Q => scal x y = true ∧ Q (.bl (decide (x = y))) H
def rNe : R2 := fun x y H Q => scal x y = true ∧ Q (.bl (!decide (x = y))) H

theorem dec_int {i j : Int} : decide (V.int i = V.int j) = (i == j) := by
  rw [Bool.eq_iff_iff]
  simp
theorem dec_bl {i j : Bool} : decide (V.bl i = V.bl j) = (i == j) := by
  rw [Bool.eq_iff_iff]
  simp
theorem dec_str {i j : Str} : decide (V.str i = V.str j) = (i == j) := by
  rw [Bool.eq_iff_iff]
  simp
theorem dec_byt {i j : Array UInt8} : decide (V.byt i = V.byt j) = (i.toList == j.toList) := by
  rw [Bool.eq_iff_iff]
  cases i
  cases j
  simp

section
variable {X : Cx} {a b c : Expr} {ta tb tc : TE} {pos : Pos}
theorem fin_bl {pins : List (Addr × Obj)} {σ : St} {H : Hp} {s : Shared} {Q : VK} {k k' : Bool} (I : Inv X pins σ H s) (q : Q (.bl k) H) (e : k = k') : EP X pins σ Q (.bool k') s := by
  subst e
  exact ⟨.bl k, H, I, rfl, q⟩
theorem op_eq : OpR X (compareOp .Eq) rEq := by
  intro pins s σ H x y v u Q I rx ry h
  obtain ⟨hs, q⟩ := h
  cases x with
  | non =>
    cases rx
    cases y with
    | non => cases ry; exact PySem.EqNone.eq_none_none (fin_bl I q (by simp))
    | bl j => cases ry; exact PySem.EqNone.eq_none_bool (fin_bl I q (by simp))
    | int j => obtain ⟨t', rfl⟩ := ry; exact PySem.EqNone.eq_none_int (fin_bl I q (by simp))
    | str j => obtain ⟨t', rfl⟩ := ry; exact PySem.EqNone.eq_none_str (fin_bl I q (by simp))
    | _ => exact absurd (show false = true from hs) Bool.false_ne_true
  | bl i =>
    cases rx
    cases y with
    | non => cases ry; exact PySem.EqNone.eq_bool_none (fin_bl I q (by simp))
    | bl j => cases ry; exact eq_bool (fin_bl I q dec_bl)
    | str j => obtain ⟨t', rfl⟩ := ry; exact PySem.EqMixed.eq_bool_str (fin_bl I q (by simp))
    | _ => exact absurd (show false = true from hs) Bool.false_ne_true
  | int i =>
    obtain ⟨t, rfl⟩ := rx
    cases y with
    | non => cases ry; exact PySem.EqNone.eq_int_none (fin_bl I q (by simp))
    | int j => obtain ⟨t', rfl⟩ := ry; exact eq_int (fin_bl I q dec_int)
    | str j => obtain ⟨t', rfl⟩ := ry; exact PySem.EqMixed.eq_int_str (fin_bl I q (by simp))
    | _ => exact absurd (show false = true from hs) Bool.false_ne_true
  | str i =>
    obtain ⟨t, rfl⟩ := rx
    cases y with
    | non => cases ry; exact PySem.EqNone.eq_str_none (fin_bl I q (by simp))
    | bl j => cases ry; exact PySem.EqMixed.eq_str_bool (fin_bl I q (by simp))
    | int j => obtain ⟨t', rfl⟩ := ry; exact PySem.EqMixed.eq_str_int (fin_bl I q (by simp))
    | str j => obtain ⟨t', rfl⟩ := ry; exact eq_str (fin_bl I q dec_str)
    | _ => exact absurd (show false = true from hs) Bool.false_ne_true
  | byt i =>
    obtain ⟨t, rfl⟩ := rx
    cases y with
    | byt j => obtain ⟨t', rfl⟩ := ry; exact PySem.W.eq_bytes (fin_bl I q dec_byt)
    | _ => exact absurd (show false = true from hs) Bool.false_ne_true
  | _ => cases y <;> exact absurd (show false = true from hs) Bool.false_ne_true
theorem op_ne : OpR X (compareOp .NotEq) rNe := by
  intro pins s σ H x y v u Q I rx ry h
  obtain ⟨hs, q⟩ := h
  cases x with
  | non =>
    cases rx
    cases y with
    | non => cases ry; exact PySem.EqNone.ne_none_none (fin_bl I q (by simp))
    | bl j => cases ry; exact PySem.EqNone.ne_none_bool (fin_bl I q (by simp))
    | int j => obtain ⟨t', rfl⟩ := ry; exact PySem.EqNone.ne_none_int (fin_bl I q (by simp))
    | str j => obtain ⟨t', rfl⟩ := ry; exact PySem.EqNone.ne_none_str (fin_bl I q (by simp))
    | _ => exact absurd (show false = true from hs) Bool.false_ne_true
  | bl i =>
    cases rx
    cases y with
    | non => cases ry; exact PySem.EqNone.ne_bool_none (fin_bl I q (by simp))
    | bl j => cases ry; exact ne_bool (fin_bl I q (congrArg not dec_bl))
    | str j => obtain ⟨t', rfl⟩ := ry; exact PySem.EqMixed.ne_bool_str (fin_bl I q (by simp))
    | _ => exact absurd (show false = true from hs) Bool.false_ne_true
  | int i =>
    obtain ⟨t, rfl⟩ := rx
    cases y with
    | non => cases ry; exact PySem.EqNone.ne_int_none (fin_bl I q (by simp))
    | int j => obtain ⟨t', rfl⟩ := ry; exact ne_int (fin_bl I q (congrArg not dec_int))
    | str j => obtain ⟨t', rfl⟩ := ry; exact PySem.EqMixed.ne_int_str (fin_bl I q (by simp))
    | _ => exact absurd (show false = true from hs) Bool.false_ne_true
  | str i =>
    obtain ⟨t, rfl⟩ := rx
    cases y with
    | non => cases ry; exact PySem.EqNone.ne_str_none (fin_bl I q (by simp))
    | bl j => cases ry; exact PySem.EqMixed.ne_str_bool (fin_bl I q (by simp))
    | int j => obtain ⟨t', rfl⟩ := ry; exact PySem.EqMixed.ne_str_int (fin_bl I q (by simp))
    | str j => obtain ⟨t', rfl⟩ := ry; exact ne_str (fin_bl I q (congrArg not dec_str))
    | _ => exact absurd (show false = true from hs) Bool.false_ne_true
  | byt i =>
    obtain ⟨t, rfl⟩ := rx
    cases y with
    | byt j => obtain ⟨t', rfl⟩ := ry; exact PySem.W.ne_bytes (fin_bl I q (congrArg not dec_byt))
    | _ => exact absurd (show false = true from hs) Bool.false_ne_true
  | _ => cases y <;> exact absurd (show false = true from hs) Bool.false_ne_true

theorem op_lt : OpR X (compareOp .Lt) (rI0 fun i j => .bl (decide (i < j))) := opB0 fun _ _ _ _ _ _ _ q => lt_int q
theorem op_le : OpR X (compareOp .LtE) (rI0 fun i j => .bl (decide (i ≤ j))) := opB0 fun _ _ _ _ _ _ _ q => le_int q
theorem op_gt : OpR X (compareOp .Gt) (rI0 fun i j => .bl (decide (j < i))) := opB0 fun _ _ _ _ _ _ _ q => gt_int q
theorem op_ge : OpR X (compareOp .GtE) (rI0 fun i j => .bl (decide (j ≤ i))) := opB0 fun _ _ _ _ _ _ _ q => ge_int q
theorem op_lt_str : OpR X (compareOp .Lt) (fun x y H Q => ∃ i j, x = .str i ∧ y = .str j ∧ Q (.bl (decide (i.cps.toList < j.cps.toList))) H) := by
  intro pins s σ H x y v u Q I rx ry h
  obtain ⟨i, j, rfl, rfl, q⟩ := h
  obtain ⟨t, rfl⟩ := rx
  obtain ⟨t', rfl⟩ := ry
  exact lt_str (fin_bl I q rfl)
/-- the one string within the other -/
theorem op_in_str : OpR X (compareOp .In) (fun x y H Q => ∃ i j, x = .str i ∧ y = .str j ∧ Q (.bl (!(Builtin.Str.occurrences j i 0 j.length 1).isEmpty)) H) := by
  intro pins s σ H x y v u Q I rx ry h
  obtain ⟨i, j, rfl, rfl, q⟩ := h
  obtain ⟨t, rfl⟩ := rx
  obtain ⟨t', rfl⟩ := ry
  exact in_str (fin_bl I q rfl)

/-- is None, is not None: the right side a value none -/
theorem op_isN : OpR X (compareOp .Is) (fun x y H Q => y = .non ∧ Q (.bl (decide (x = .non))) H) := by
  intro pins s σ H x y v u Q I rx ry h
  obtain ⟨rfl, q⟩ := h
  cases ry
  refine is_none_gen (fin_bl I q ?_)
  cases x <;> first
    | (cases rx; rfl)
    | (obtain ⟨t, rfl⟩ := rx; rfl)
theorem op_notN : OpR X (compareOp .IsNot) (fun x y H Q => y = .non ∧ Q (.bl (!decide (x = .non))) H) := by
  intro pins s σ H x y v u Q I rx ry h
  obtain ⟨rfl, q⟩ := h
  cases ry
  refine isnot_none_gen (fin_bl I q ?_)
  cases x <;> first
    | (cases rx; rfl)
    | (obtain ⟨t, rfl⟩ := rx; rfl)

theorem op_notin_str : OpR X (compareOp .NotIn) (fun x y H Q => ∃ i j, x = .str i ∧ y = .str j ∧ Q (.bl (!(!(Builtin.Str.occurrences j i 0 j.length 1).isEmpty))) H) := by
  intro pins s σ H x y v u Q I rx ry h
  obtain ⟨i, j, rfl, rfl, q⟩ := h
  obtain ⟨t, rfl⟩ := rx
  obtain ⟨t', rfl⟩ := ry
  exact notIn_str (fin_bl I q rfl)
/-- is, is not of two objects that are tracked lists or instances -/
def isObj : HO → Bool
  | .lst _ => true
  | .ins _ _ _ => true
  | _ => false
theorem obj_there {pins : List (Addr × Obj)} {s : Shared} {σ : St} {H : Hp} {a : Addr} {o : HO} (I : Inv X pins σ H s) (h : H a = some o) (p : isObj o = true) : ∃ ob, s.heap.get? a = some ob ∧ ob.cls ≠ .type "tuple" := by
  cases o with
  | lst xs =>
    obtain ⟨_, its, n, _, e⟩ : xs.length ≤ sizeLine ∧ ∃ (its : List Value) (n : Nat), Vals xs its ∧ s.heap.get? a = some { cls := .type "list", data := .seq its.toArray n } := I.hok a _ h
    exact ⟨_, e, (by show Value.type "list" ≠ .type "tuple"; decide +kernel)⟩
  | ins C dx fs =>
    have x := I.hok a _ h
    obtain ⟨_, _, _, e, _⟩ := x
    exact ⟨_, e, (by show Value.ref C ≠ .type "tuple"; exact fun z => by cases z)⟩
  | _ => exact absurd (show false = true from p) Bool.false_ne_true
theorem op_is_ref : OpR X (compareOp .Is) (fun x y H Q => ∃ a b oa ob, x = .ref a ∧ y = .ref b ∧ H a = some oa ∧ isObj oa = true ∧ H b = some ob ∧ isObj ob = true ∧ Q (.bl (decide (a = b))) H) := by
  intro pins s σ H x y v u Q I rx ry h
  obtain ⟨a, b, oa, ob, rfl, rfl, ha, pa, hb, pb, q⟩ := h
  cases rx
  cases ry
  obtain ⟨o1, e1, n1⟩ := obj_there I ha pa
  obtain ⟨o2, e2, _⟩ := obj_there I hb pb
  by_cases z : a = b
  · subst z
    exact wpAny_is_ref_self (fin_bl I q (by simp))
  · exact wpAny_is_ref_other z e1 e2 n1 (fin_bl I q (by simp [z]))
theorem op_isnot_ref : OpR X (compareOp .IsNot) (fun x y H Q => ∃ a b oa ob, x = .ref a ∧ y = .ref b ∧ H a = some oa ∧ isObj oa = true ∧ H b = some ob ∧ isObj ob = true ∧ Q (.bl (!decide (a = b))) H) := by
  intro pins s σ H x y v u Q I rx ry h
  obtain ⟨a, b, oa, ob, rfl, rfl, ha, pa, hb, pb, q⟩ := h
  cases rx
  cases ry
  obtain ⟨o1, e1, n1⟩ := obj_there I ha pa
  obtain ⟨o2, e2, _⟩ := obj_there I hb pb
  by_cases z : a = b
  · subst z
    exact wpAny_isNot_ref_self (fin_bl I q (by simp))
  · exact wpAny_isNot_ref_other z e1 e2 n1 (fin_bl I q (by simp [z]))

/-- two rules for one operation: by cases -/
theorem OpR.or {f : Value → Value → Sem Value} {r r' : R2} (h : OpR X f r) (h' : OpR X f r') : OpR X f (fun x y H Q => r x y H Q ∨ r' x y H Q) := by
  intro pins s σ H x y v u Q I rx ry q
  rcases q with q | q
  · exact h pins s σ H x y v u Q I rx ry q
  · exact h' pins s σ H x y v u Q I rx ry q

theorem nomark (b : Expr) {op : CmpOp} (h : op ≠ .In := by decide) (h2 : op ≠ .NotIn := by decide) : behindInMarks op b = false := by
  have e1 : (op == CmpOp.In) = false := by cases op <;> first | rfl | exact absurd rfl h
  have e2 : (op == CmpOp.NotIn) = false := by cases op <;> first | rfl | exact absurd rfl h2
  cases b <;> simp [behindInMarks, e1, e2]
/-- a comparison as a value; hm: nomark b, or (for in, not in) by with_unfolding_all rfl -/
theorem pe_cmpR {op : CmpOp} {r : R2} (ho : OpR X (compareOp op) r) (ha : PE X a ta) (hb : PE X b tb) (hm : behindInMarks op b = false) : PE X (.Compare a [op] [b] pos) (tOp r ta tb) := by
  intro pins s σ H Q I h
  exact wpAny_Compare1 (binT ha hb I h fun v u s2 x y H2 I2 rx ry q => ho pins s2 σ H2 x y v u Q I2 rx ry q) hm
/-- a reading of a value as a test -/
def tTest (t : TE) : TT := fun σ H Q => t σ H fun x H' => ∃ k, x = .bl k ∧ Q k H'
theorem pt_cmpR {op : CmpOp} {r : R2} (ho : OpR X (compareOp op) r) (ha : PE X a ta) (hb : PE X b tb) (hm : behindInMarks op b = false) : PT X (.Compare a [op] [b] pos) (tTest (tOp r ta tb)) := by
  intro pins s σ H Q I h
  refine wpAny_isTrue_Compare1 (thn (ha pins s σ H _ I h) fun v s1 ⟨x, H1, I1, r1, q1⟩ => thn (hb pins s1 σ H1 _ I1 q1) fun u s2 ⟨y, H2, I2, r2, q2⟩ =>
    thn (ho pins s2 σ H2 x y v u _ I2 r1 r2 q2) fun c s3 ⟨z, H3, I3, r3, k, e, q3⟩ => ?_) hm
  subst e
  cases r3
  exact wpAny_truthy_bool ⟨H3, I3, q3⟩
/-- a op1 b op2 c -/
def tChain (r r' : R2) (ta tb tc : TE) : TE := fun σ H Q => ta σ H fun x H1 => tb σ H1 fun y H2 => r x y H2 fun z H3 => ∃ k, z = .bl k ∧
  (if k = true then tc σ H3 fun w' H4 => r' y w' H4 Q else Q (.bl false) H3)
theorem pe_chain {op op' : CmpOp} {r r' : R2} (ho : OpR X (compareOp op) r) (ho' : OpR X (compareOp op') r') (ha : PE X a ta) (hb : PE X b tb) (hc : PE X c tc)
    (hm : lastMarks [op, op'] [b, c] = false := by with_unfolding_all rfl) : PE X (.Compare a [op, op'] [b, c] pos) (tChain r r' ta tb tc) := by
  intro pins s σ H Q I h
  refine Compare_chain (thn (ha pins s σ H _ I h) fun v s1 ⟨x, H1, I1, r1, q1⟩ => chain_link (thn (hb pins s1 σ H1 _ I1 q1) fun u s2 ⟨y, H2, I2, r2, q2⟩ =>
    thn (ho pins s2 σ H2 x y v u _ I2 r1 r2 q2) fun d s3 ⟨z, H3, I3, r3, k, e, q3⟩ => ?_)) hm
  subst e
  cases r3
  refine wpAny_truthy_bool ?_
  cases k with
  | false => exact ite_ff ⟨.bl false, H3, I3, rfl, q3⟩
  | true => exact ite_tt (chain_last (thn (hc pins s3 σ H3 _ I3 q3) fun w' s4 ⟨z', H4, I4, r4, q4⟩ => ho' pins s4 σ H4 y z' u w' Q I4 r2 r4 q4))
theorem pt_chain {op op' : CmpOp} {r r' : R2} (ho : OpR X (compareOp op) r) (ho' : OpR X (compareOp op') r') (ha : PE X a ta) (hb : PE X b tb) (hc : PE X c tc)
    (hm : lastMarks [op, op'] [b, c] = false := by with_unfolding_all rfl) : PT X (.Compare a [op, op'] [b, c] pos) (tTest (tChain r r' ta tb tc)) := by
  intro pins s σ H Q I h
  refine isTrue_chain (thn (ha pins s σ H _ I h) fun v s1 ⟨x, H1, I1, r1, q1⟩ => test_link (thn (hb pins s1 σ H1 _ I1 q1) fun u s2 ⟨y, H2, I2, r2, q2⟩ =>
    thn (ho pins s2 σ H2 x y v u _ I2 r1 r2 q2) fun d s3 ⟨z, H3, I3, r3, k, e, q3⟩ => ?_)) hm
  subst e
  cases r3
  refine wpAny_truthy_bool ?_
  cases k with
  | false =>
    obtain ⟨k', e', q'⟩ := q3
    cases e'
    exact ite_ff ⟨H3, I3, q'⟩
  | true =>
    refine ite_tt (test_last (thn (hc pins s3 σ H3 _ I3 q3) fun w' s4 ⟨z', H4, I4, r4, q4⟩ => thn (ho' pins s4 σ H4 y z' u w' _ I4 r2 r4 q4) fun d' s5 ⟨z2, H5, I5, r5, k2, e2, q5⟩ => ?_))
    subst e2
    cases r5
    exact wpAny_truthy_bool ⟨H5, I5, q5⟩

/-! ### truth -/
/-- a value's truth by the abstract heap -/
def TruV (K : PySem.W.Frag) (x : V) (H : Hp) (k : Bool) : Prop :=
  match x with
  | .non => k = false
  | .bl b => k = b
  | .int i => k = (i != 0)
  | .str y => y.length ≤ sizeLine ∧ k = ((y.length : Int) != 0)
  | .byt y => y.size ≤ sizeLine ∧ k = ((y.size : Int) != 0)
  | .ref p => (∃ xs, SqL K H p xs ∧ k = !xs.isEmpty) ∨ (∃ xs, SqT K H p xs ∧ k = !xs.isEmpty) ∨ ∃ kvs, H p = some (.dK kvs) ∧ k = !kvs.isEmpty
  | _ => False
theorem isEmpty_kv {κ : Type} {kvs : List (κ × V)} {vs : List (κ × Value)} (r : KV kvs vs) : (!vs.isEmpty) = !kvs.isEmpty := by
  cases r <;> rfl
theorem isEmpty_of {xs : List V} {its : List Value} (r : Vals xs its) : (!its.toArray.isEmpty) = !xs.isEmpty := by
  cases r <;> simp
theorem line63 : (sizeLine : Nat) < 2 ^ 63 := by rw [sizeLine_eq]; decide
theorem tru_ok : TruR X (fun x H Q => ∃ k, TruV X.K x H k ∧ Q k H) := by
  intro pins s σ H x v Q I rx h
  obtain ⟨k, e, q⟩ := h
  have hl := line63
  have hs : sizeLine = 16777216 := sizeLine_eq
  cases x with
  | non =>
    cases rx
    have e' : k = false := e
    subst e'
    exact truthy_none ⟨H, I, q⟩
  | bl b =>
    cases rx
    have e' : k = b := e
    subst e'
    exact wpAny_truthy_bool ⟨H, I, q⟩
  | int i =>
    obtain ⟨t, rfl⟩ := rx
    have e' : k = (i != 0) := e
    subst e'
    exact PySem.P.truthy_int ⟨H, I, q⟩
  | str y =>
    obtain ⟨t, rfl⟩ := rx
    obtain ⟨hy, e'⟩ : y.length ≤ sizeLine ∧ k = ((y.length : Int) != 0) := e
    subst e'
    exact PySem.P.truthy_str (by omega) ⟨H, I.tok _, q⟩
  | byt y =>
    obtain ⟨t, rfl⟩ := rx
    obtain ⟨hy, e'⟩ : y.size ≤ sizeLine ∧ k = ((y.size : Int) != 0) := e
    subst e'
    exact PySem.W.truthy_bytes (by omega) ⟨H, I.tok _, q⟩
  | ref p =>
    cases rx
    have e' : (∃ xs, SqL X.K H p xs ∧ k = !xs.isEmpty) ∨ (∃ xs, SqT X.K H p xs ∧ k = !xs.isEmpty) ∨ ∃ kvs, H p = some (.dK kvs) ∧ k = !kvs.isEmpty := e
    rcases e' with ⟨xs, hx, e'⟩ | ⟨xs, hx, e'⟩ | ⟨kvs, hx, e'⟩
    · subst e'
      obtain ⟨its, r, pl, hz⟩ := I.list hx
      have hlen := r.length
      exact wpAny_truthy_list pl.isList (by simp only [List.size_toArray]; omega) ⟨H, I.tok _, by rw [isEmpty_of r]; exact q⟩
    · subst e'
      obtain ⟨its, r, pl, hz⟩ := I.tuple hx
      have hlen := r.length
      exact truthy_tuple pl (by simp only [List.size_toArray]; omega) ⟨H, I.tok _, by rw [isEmpty_of r]; exact q⟩
    · subst e'
      obtain ⟨hz, hS, vs, r, m⟩ : kvs.length ≤ sizeLine ∧ (p == sysModules) = false ∧ ∃ vs, KV kvs vs ∧ s.heap.DictOf (mixKind X.prog X.w) p vs := I.hok p _ hx
      have hlen : kvs.length = vs.length := Paired.length r
      exact wpAny_truthy_dict hS m (by omega) ⟨H, I.tok _, by rw [isEmpty_kv r]; exact q⟩
  | _ => exact (show False from e).elim
/-- any expression whose test is its value's truth (a name, a call, a subscript, a field ..: he by fun _ => rfl) -/
theorem pt_truth (ha : PE X a ta) (he : ∀ whole, isTrue a X.env whole = (do let v ← whole; standAt a.pos; holding [v] (truthy v))) :
    PT X a (fun σ H Q => ta σ H fun x H' => ∃ k, TruV X.K x H' k ∧ Q k H') := by
  intro pins s σ H Q I h
  exact isTrue_plain (thn (ha pins s σ H _ I h) fun v s1 ⟨x, H1, I1, r1, q1⟩ => tru_ok pins s1 σ H1 x v Q I1 r1 q1) (he _)

/-! ### strs and bytes -/
theorem pe_byt {x : List UInt8} {k : Nat} : PE X (.Constant (.bytes x) k pos) (fun _ H Q => Q (.byt x.toArray) H) := fun _ _ _ H _ I h => PySem.W.Constant_bytes ⟨.byt x.toArray, H, I.tok _, ⟨_, rfl⟩, h⟩
theorem op_add_str : OpR X (binaryOp .Add) (fun x y H Q => ∃ i j, x = .str i ∧ y = .str j ∧ i.length + j.length ≤ sizeLine ∧ Q (.str (i ++ j)) H) := by
  intro pins s σ H x y v u Q I rx ry h
  obtain ⟨i, j, rfl, rfl, hz, q⟩ := h
  obtain ⟨t, rfl⟩ := rx
  obtain ⟨t', rfl⟩ := ry
  exact add_str (fun t' tk => ⟨.str (i ++ j), H, I.tok _, ⟨_, rfl⟩, q⟩) hz
theorem iop_add_str : OpR X (inplaceOp .Add) (fun x y H Q => ∃ i j, x = .str i ∧ y = .str j ∧ i.length + j.length ≤ sizeLine ∧ Q (.str (i ++ j)) H) := by
  intro pins s σ H x y v u Q I rx ry h
  obtain ⟨i, j, rfl, rfl, hz, q⟩ := h
  obtain ⟨t, rfl⟩ := rx
  obtain ⟨t', rfl⟩ := ry
  exact iadd_str (fun t' tk => ⟨.str (i ++ j), H, I.tok _, ⟨_, rfl⟩, q⟩) hz
theorem op_add_byt : OpR X (binaryOp .Add) (fun x y H Q => ∃ i j, x = .byt i ∧ y = .byt j ∧ i.size + j.size ≤ 16777216 ∧ Q (.byt (i ++ j)) H) := by
  intro pins s σ H x y v u Q I rx ry h
  obtain ⟨i, j, rfl, rfl, hz, q⟩ := h
  obtain ⟨t, rfl⟩ := rx
  obtain ⟨t', rfl⟩ := ry
  exact PySem.W.KBy.add_bytes hz (fun t' tk => ⟨.byt (i ++ j), H, I.tok _, ⟨_, rfl⟩, q⟩)

def PlainIxT (b : Expr) : Prop := ∀ o i, subscripted b false o i = operate [o, i] (getItem o i)
/-- s[i], 0 ≤ i < len -/
theorem pe_item_str (ha : PE X a ta) (hb : PE X b tb) (hs : PlainIxT b) :
    PE X (.Subscript a b pos) (tOp (fun x y H Q => ∃ z i c, x = .str z ∧ y = .int i ∧ 0 ≤ i ∧ i < 2 ^ 63 ∧ i < z.length ∧ z.cps[i.toNat]? = some c ∧ Q (.str ⟨#[c]⟩) H) ta tb) := by
  intro pins s σ H Q I h
  refine Subscript_ (binT ha hb I h fun v u s2 x y H2 I2 rx ry q => ?_)
  obtain ⟨z, i, c, rfl, rfl, h0, h63, h1, hc, q⟩ := q
  obtain ⟨t, rfl⟩ := rx
  obtain ⟨t', rfl⟩ := ry
  have e : seqIndex? i z.length = some i.toNat := PySem.StrLaws.seqIndex_nonneg h0 h1
  exact tail_any (typeIs_str s2 z t) slot_str_getitem.lookup (getItem_str (c := c) (by
    have e1 : decide (i < -(2 ^ 63 : Int)) = false := decide_eq_false (by omega)
    have e2 : decide (i ≥ 2 ^ 63) = false := decide_eq_false (by omega)
    rw [e1, e2] <;> rfl) (by rw [e]; exact hc) ⟨.str ⟨#[c]⟩, H2, I2.tok _, ⟨_, rfl⟩, q⟩) (hs _ _)
/-- b[i], 0 ≤ i < len -/
theorem pe_item_byt (ha : PE X a ta) (hb : PE X b tb) (hs : PlainIxT b) :
    PE X (.Subscript a b pos) (tOp (fun x y H Q => ∃ (z : List UInt8) (i : Int), x = .byt z.toArray ∧ y = .int i ∧ z.length ≤ sizeLine ∧ 0 ≤ i ∧ i < z.length ∧ Q (.int ((z.getD i.toNat 0).toNat : Nat)) H) ta tb) := by
  intro pins s σ H Q I h
  refine Subscript_ (binT ha hb I h fun v u s2 x y H2 I2 rx ry q => ?_)
  obtain ⟨z, i, rfl, rfl, hz, h0, h1, q⟩ := q
  obtain ⟨t, rfl⟩ := rx
  obtain ⟨t', rfl⟩ := ry
  have hl : sizeLine = 16777216 := sizeLine_eq
  exact tail_any (PySem.W.typeIs_bytes s2 z.toArray t) PySem.W.FB.slot_bytes_getitem.lookup (PySem.W.getItem_bytes (by omega) h0 h1 ⟨.int ((z.getD i.toNat 0).toNat : Nat), H2, I2.tok _, ⟨_, rfl⟩, q⟩) (hs _ _)

/-! ### scalar builtins, by CallR -/
theorem vals1 {x : V} {us : List Value} (r : Vals [x] us) : ∃ u, us = [u] ∧ RelV x u := by
  cases r with
  | cons r1 r2 => cases r2; exact ⟨_, rfl, r1⟩
theorem vals2 {x y : V} {us : List Value} (r : Vals [x, y] us) : ∃ u w', us = [u, w'] ∧ RelV x u ∧ RelV y w' := by
  cases r with
  | cons r1 r2 =>
    cases r2 with
    | cons r3 r4 => cases r4; exact ⟨_, _, rfl, r1, r3⟩
theorem call_abs : CallR X (.builtin "abs") (fun xs H Q => ∃ i, xs = [.int i] ∧ Q (.int (if i < 0 then -i else i)) H) := by
  intro pins s σ H xs us Q I r h
  obtain ⟨i, rfl, q⟩ := h
  obtain ⟨u, rfl, t, rfl⟩ := vals1 r
  exact call_abs_int fun u tk => ⟨.int (if i < 0 then -i else i), H, I.tok _, ⟨_, rfl⟩, q⟩
theorem call_max2 (hc : X.calm = true) : CallR X (.builtin "max") (fun xs H Q => ∃ i j, xs = [.int i, .int j] ∧ Q (.int (if j > i then j else i)) H) := by
  intro pins s σ H xs us Q I r h
  obtain ⟨i, j, rfl, q⟩ := h
  obtain ⟨u, w', rfl, ⟨t, rfl⟩, ⟨t', rfl⟩⟩ := vals2 r
  refine max_two_ints (I.ok.hd hc) fun h' tk k => ⟨_, H, I.kept k, ?_, q⟩
  by_cases hj : j > i
  · rw [if_pos hj, if_pos hj]; exact ⟨_, rfl⟩
  · rw [if_neg hj, if_neg hj]; exact ⟨_, rfl⟩
theorem call_min2 (hc : X.calm = true) : CallR X (.builtin "min") (fun xs H Q => ∃ i j, xs = [.int i, .int j] ∧ Q (.int (if j < i then j else i)) H) := by
  intro pins s σ H xs us Q I r h
  obtain ⟨i, j, rfl, q⟩ := h
  obtain ⟨u, w', rfl, ⟨t, rfl⟩, ⟨t', rfl⟩⟩ := vals2 r
  refine min_two_ints (I.ok.hd hc) fun h' tk k => ⟨_, H, I.kept k, ?_, q⟩
  by_cases hj : j < i
  · rw [if_pos hj, if_pos hj]; exact ⟨_, rfl⟩
  · rw [if_neg hj, if_neg hj]; exact ⟨_, rfl⟩
theorem call_int1 : CallR X (.type "int") (fun xs H Q => (∃ i, xs = [.int i] ∧ Q (.int i) H) ∨ ∃ k, xs = [.bl k] ∧ Q (.int (if k then 1 else 0)) H) := by
  intro pins s σ H xs us Q I r h
  rcases h with ⟨i, rfl, q⟩ | ⟨k, rfl, q⟩
  · obtain ⟨u, rfl, t, rfl⟩ := vals1 r
    exact call_int_int ⟨.int i, H, I, ⟨_, rfl⟩, q⟩
  · obtain ⟨u, rfl, r1⟩ := vals1 r
    cases r1
    exact call_int_bool ⟨.int (if k then 1 else 0), H, I.tok _, ⟨_, rfl⟩, q⟩
theorem call_bool1 : CallR X (.type "bool") (fun xs H Q => (∃ i, xs = [.int i] ∧ Q (.bl (i != 0)) H) ∨ ∃ k, xs = [.bl k] ∧ Q (.bl k) H) := by
  intro pins s σ H xs us Q I r h
  rcases h with ⟨i, rfl, q⟩ | ⟨k, rfl, q⟩
  · obtain ⟨u, rfl, t, rfl⟩ := vals1 r
    exact call_bool_int ⟨.bl (i != 0), H, I, rfl, q⟩
  · obtain ⟨u, rfl, r1⟩ := vals1 r
    cases r1
    exact call_bool_bool ⟨.bl k, H, I, rfl, q⟩
theorem call_str_int : CallR X (.type "str") (fun xs H Q => ∃ i, xs = [.int i] ∧ i.natAbs.log2 < 1920 ∧ Q (.str (toString i)) H) := by
  intro pins s σ H xs us Q I r h
  obtain ⟨i, rfl, hz, q⟩ := h
  obtain ⟨u, rfl, t, rfl⟩ := vals1 r
  exact PySem.P.str_of_int hz ⟨.str _, H, I.tok _, ⟨_, rfl⟩, q⟩
theorem call_ord : CallR X (.builtin "ord") (fun xs H Q => ∃ x, xs = [.str x] ∧ x.length = 1 ∧ Q (.int (x.cps.getD 0 0 : Nat)) H) := by
  intro pins s σ H xs us Q I r h
  obtain ⟨x, rfl, hz, q⟩ := h
  obtain ⟨u, rfl, t, rfl⟩ := vals1 r
  exact ord_of_one hz ⟨.int _, H, I.tok _, ⟨_, rfl⟩, q⟩
theorem call_chr : CallR X (.builtin "chr") (fun xs H Q => ∃ i, xs = [.int i] ∧ 0 ≤ i ∧ i ≤ 1114111 ∧ Q (.str ⟨#[i.toNat]⟩) H) := by
  intro pins s σ H xs us Q I r h
  obtain ⟨i, rfl, h0, h1, q⟩ := h
  obtain ⟨u, rfl, t, rfl⟩ := vals1 r
  exact chr_of_range h0 h1 ⟨.str _, H, I.tok _, ⟨_, rfl⟩, q⟩
/-- len of a str, a bytes, a list, a tuple -/
def LenV (K : PySem.W.Frag) (x : V) (H : Hp) (n : Nat) : Prop :=
  match x with
  | .str y => y.length ≤ sizeLine ∧ n = y.length
  | .byt y => y.size ≤ sizeLine ∧ n = y.size
  | .ref p => (∃ xs, SqL K H p xs ∧ n = xs.length) ∨ ∃ xs, SqT K H p xs ∧ n = xs.length
  | _ => False
theorem call_len : CallR X (.builtin "len") (fun xs H Q => ∃ x n, xs = [x] ∧ LenV X.K x H n ∧ Q (.int n) H) := by
  intro pins s σ H xs us Q I r h
  obtain ⟨x, n, rfl, e, q⟩ := h
  obtain ⟨u, rfl, rx⟩ := vals1 r
  have hl := line63
  have hs : sizeLine = 16777216 := sizeLine_eq
  cases x with
  | str y =>
    obtain ⟨t, rfl⟩ := rx
    obtain ⟨hy, e'⟩ : y.length ≤ sizeLine ∧ n = y.length := e
    subst e'
    exact len_str (by omega) ⟨.int _, H, I.tok _, ⟨_, rfl⟩, q⟩
  | byt y =>
    obtain ⟨t, rfl⟩ := rx
    obtain ⟨hy, e'⟩ : y.size ≤ sizeLine ∧ n = y.size := e
    subst e'
    exact PySem.W.len_bytes (by omega) ⟨.int _, H, I.tok _, ⟨_, rfl⟩, q⟩
  | ref p =>
    cases rx
    have e' : (∃ xs, SqL X.K H p xs ∧ n = xs.length) ∨ ∃ xs, SqT X.K H p xs ∧ n = xs.length := e
    rcases e' with ⟨xs, hx, e'⟩ | ⟨xs, hx, e'⟩
    · subst e'
      obtain ⟨its, r', pl, hz⟩ := I.list hx
      have hlen := r'.length
      exact Calls.call_len_list pl.isList (by simp only [List.size_toArray]; omega) ⟨.int xs.length, H, I.tok _, ⟨_, by simp only [List.size_toArray]; rw [hlen]⟩, q⟩
    · subst e'
      obtain ⟨its, r', pl, hz⟩ := I.tuple hx
      have hlen := r'.length
      exact len_tuple pl (by simp only [List.size_toArray]; omega) ⟨.int xs.length, H, I.tok _, ⟨_, by simp only [List.size_toArray]; rw [hlen]⟩, q⟩
  | _ => exact (show False from e).elim
/-- divmod: a new tuple -/
theorem call_divmod : CallR X (.builtin "divmod") (fun xs H Q => ∃ i j, xs = [.int i, .int j] ∧ CDiv i j ∧ ∀ p, H p = none → Q (.ref p) (upd H p (.tup [.int (i / j), .int (i % j)]))) := by
  intro pins s σ H xs us Q I r h
  obtain ⟨i, j, rfl, ⟨h1, h2⟩, q⟩ := h
  obtain ⟨u, w', rfl, ⟨t, rfl⟩, ⟨t', rfl⟩⟩ := vals2 r
  refine divmod_int (by omega) ?_ (.inl (PyProof.noPylong_small (by omega)))
  rw [Int.fdiv_eq_ediv_of_nonneg i (by omega), Int.fmod_eq_emod_of_nonneg i (by omega)]
  have hn : H s.heap.objs.size = none := I.hok.fresh (Nat.le_refl _)
  refine ⟨.ref s.heap.objs.size, _, ?_, rfl, q _ hn⟩
  refine I.laid (fun b o e => Heap.get?_push_of_some _ e) (Nat.le_refl _) ⟨by simp only [List.length_cons, List.length_nil]; rw [sizeLine_eq]; decide, [.int (i / j) s.toks, .int (i % j) (s.toks + 1)], .cons ⟨_, rfl⟩ (.cons ⟨_, rfl⟩ .nil), ?_⟩
  exact ⟨_, Heap.get?_push_size s.heap rfl, rfl, 0, rfl⟩
end
end L2

namespace L2
open PySem PySem.Spec PyProof.Rows

/-! ### an instance, its attributes a map -/
structure ObjM (h : Heap) (x dx C : Addr) (mA : Str → Option Value) : Prop where
  obj : h.get? x = some (PySem.W.instObj C dx)
  ns : h.Ns1 dx mA
  ne : dx ≠ x

theorem lookIn_ns {h : Heap} {dx : Addr} {mA : Str → Option Value} (n : h.Ns1 dx mA) : ∃ od, h.get? dx = some od ∧ ∀ name, PySem.W.lookIn name od = some (mA name) := by
  obtain ⟨o, es, ep, ho, hd, hk, _, hm⟩ := n
  refine ⟨o, ho, fun name => ?_⟩
  have e := hm name
  unfold nsFind findBy at e
  rw [← Array.find?_toList] at e
  unfold PySem.W.lookIn
  rw [hd]
  dsimp only
  split
  · rename_i y q
    rw [q] at e
    exact congrArg some e
  · rename_i q
    rw [q] at e
    have a : es.toList.any (·.refKey) = false := by
      rw [List.any_eq_false]
      intro y hy
      obtain ⟨z, t, hkey⟩ := hk y (Array.mem_toList_iff.mp hy)
      simp [DictEntry.refKey, hkey]
    have a' : ¬ es.toList.any (·.refKey) = true := by rw [a]; exact Bool.false_ne_true
    rw [if_neg a']
    exact congrArg some e

theorem ObjM.look {h : Heap} {x dx C : Addr} {mA : Str → Option Value} (I : ObjM h x dx C mA) : ∃ od, PySem.W.InstAt h x (PySem.W.instObj C dx) C (some od) ∧ ∀ name, PySem.W.lookIn name od = some (mA name) :=
  let ⟨od, ho, hl⟩ := lookIn_ns I.ns
  ⟨od, ⟨I.obj, rfl, rfl, ho⟩, hl⟩

section
variable {prog : Program} {w : World} {A : Around} {E : Value → Shared → Prop} {s : Shared} {K : PySem.W.Frag} {x dx C f : Addr} {mA : Str → Option Value} {name : Str} {v : Value}

theorem get_map {expr : Bool} {Q : Value → Shared → Prop} (X : K.In s.heap) (I : ObjM s.heap x dx C mA) (hg : PySem.W.plainGet K C name = true) (hh : PySem.W.hasDictIn K C = true)
    (ha : PySem.W.findIn K (.ref C) name = some none) (hv : mA name = some v) (hv' : PySem.W.handedIn v = true) (h : Q v { s with toks := s.toks + 1 }) :
    wpAny (model prog w) A (getAttr (.ref x) name expr) Q E s := by
  obtain ⟨od, J, hl⟩ := I.look
  exact PySem.W.get_value X J (PySem.W.plainGet_of hg).1 (PySem.W.findObj_own hh ha rfl (by rw [hl, hv])) hv' h

theorem get_const {expr : Bool} {a : Value} {Q : Value → Shared → Prop} (X : K.In s.heap) (I : ObjM s.heap x dx C mA) (hg : PySem.W.plainGet K C name = true) (hh : PySem.W.hasDictIn K C = true)
    (ha : PySem.W.findIn K (.ref C) name = some (some a)) (hn : PySem.W.specialIn K a "__get__" = some none) (hc : PySem.W.copiedNames.contains name = false) (hv : mA name = none) (hv' : PySem.W.handedIn a = true)
    (h : Q a { s with toks := s.toks + 1 }) : wpAny (model prog w) A (getAttr (.ref x) name expr) Q E s := by
  obtain ⟨od, J, hl⟩ := I.look
  exact PySem.W.get_value X J (PySem.W.plainGet_of hg).1 (PySem.W.findObj_cls hh ha hn hv' hc (by rw [hl, hv])) hv' h

theorem get_meth {pl : Sem Bool} {Q : Value × List Value → Shared → Prop} (X : K.In s.heap) (I : ObjM s.heap x dx C mA) (hg : PySem.W.plainGet K C name = true)
    (hf : PySem.W.findIn K (.ref C) name = some (some (.ref f))) (ht : PySem.W.isFn K (.ref f) = true) (hv : mA name = none) (h : Q (.ref f, [.ref x]) s) :
    wpAny (model prog w) A (getMethod (.ref x) name pl) Q E s := by
  obtain ⟨od, J, hl⟩ := I.look
  exact PySem.W.method_fn X J (PySem.W.plainGet_of hg).1 (PySem.W.plainGet_of hg).2 hf (beq_iff_eq.mp ht) (by show (PySem.W.lookIn name od).map (·.isSome) = some false; rw [hl, hv]; rfl) h

theorem set_map {ns : List Str} {Q : Unit → Shared → Prop} (X : K.In s.heap) (I : ObjM s.heap x dx C mA)
    (hs : PySem.W.findIn K (.ref C) "__setattr__" = some (some (.builtin "object.__setattr__"))) (hp : PySem.W.plainOver K C = true) (ht : PySem.W.takerIn K C name = some none) (hh : PySem.W.hasDictIn K C = true)
    (hw : PySem.Within mA ns) (hsz : ns.length ≤ sizeLine)
    (h : ∀ h', ObjM h' x dx C (fun y => if y = name then some v else mA y) → Heap.SameBut dx s.heap h' → Q () { s with heap := h', toks := s.toks + 2 }) :
    wpAny (model prog w) A (setAttr (.ref x) name v) Q E s := by
  obtain ⟨od, J, hl⟩ := I.look
  refine PySem.W.set_plain X J hs (PySem.W.osa_open (s := { s with toks := s.toks + 1 }) (r := none) X J hp ht fun b => ?_)
  obtain ⟨cd, hc, hd'⟩ := PySem.W.any_some hh
  have hx : s.heap.get? x = some ⟨.ref C, some dx, .plain, #[]⟩ := I.obj
  refine wpAny_bind (wpAny_pure (wpAny_bind (wpAny_bind (wpAny_loadPart hx (wpAny_bind (PySem.W.Looks.here (s := { s with toks := s.toks + 1 }) (PySem.W.looks_clsIn X hc) ?_))))))
  rw [hd']
  refine wpAny_pure (a := some dx) (wpAny_bind (wpAny_pure (wpAny_bind ?_)))
  refine wpAny_nsSet1 (s := { s with toks := s.toks + 1 }) I.ns fun h' hn2 hs2 => ?_
  obtain ⟨oD, esD, epD, hoD, hdD, hcD⟩ := hn2.count (PySem.Within.cons name v hw)
  refine wpAny_bind (wpAny_lookBehind hoD (by rw [hdD]; exact pastItsLine_dict (Nat.le_trans hcD (by rw [List.length_cons]; omega))) ?_)
  exact wpAny_pure (h _ ⟨(hs2.2 _ (Ne.symm I.ne)).trans I.obj, hn2, I.ne⟩ hs2)

/-- C(..): the dict at the heap's end, the instance behind it; then its __init__ -/
theorem make_map {R : Result → Shared → Prop} {vs : List Value} {kw : List (Str × Value)} (X : K.In s.heap) (hm : PySem.W.makesIn K C = true)
    (hi : PySem.W.findIn K (.ref C) "__init__" = some (some (.ref f))) (hf : PySem.W.typeIn K (.ref f) = some (.type "function"))
    (h : codeAny (model prog w) (A.under (.builtin "type.__call__" ⟨.ref C :: vs, kw⟩)) (.call (.ref f) ⟨.ref (s.heap.objs.size + 1) :: vs, kw⟩) (PySem.W.InitBack (s.heap.objs.size + 1) R)
      { s with heap := (s.heap.push PySem.W.emptyDict).push (PySem.W.instObj C s.heap.objs.size) }) :
    codeAny (model prog w) A (.call (.ref C) ⟨vs, kw⟩) R s := by
  obtain ⟨hh, g, d, t, os⟩ := s
  exact PySem.W.make_core (PySem.W.makes_of X hm) (PySem.W.looks_findIn X hi) (fun self => PySem.W.bind_fn X self hf) (.inl rfl) h
/-- C() where there is no __init__ but object's -/
theorem make_map0 {R : Result → Shared → Prop} (X : K.In s.heap) (hm : PySem.W.makesIn K C = true)
    (hi : PySem.W.findIn K (.ref C) "__init__" = some (some (.builtin "object.__init__")))
    (hb : ∀ self, PySem.W.Looks (model prog w) s.heap (bindSpecial (.builtin "object.__init__") self) (.builtin "object.__init__", [self]))
    (h : codeAny (model prog w) (A.under (.builtin "type.__call__" ⟨[.ref C], []⟩)) (.call (.builtin "object.__init__") ⟨[.ref (s.heap.objs.size + 1)], []⟩) (PySem.W.InitBack (s.heap.objs.size + 1) R)
      { s with heap := (s.heap.push PySem.W.emptyDict).push (PySem.W.instObj C s.heap.objs.size) }) :
    codeAny (model prog w) A (.call (.ref C) ⟨[], []⟩) R s := by
  obtain ⟨hh, g, d, t, os⟩ := s
  exact PySem.W.make_core (PySem.W.makes_of X hm) (PySem.W.looks_findIn X hi) hb (.inr ⟨rfl, rfl⟩) h
end

/-! ### the attributes as a list of pairs -/
def putF (f : Str) (v : V) : List (Str × V) → List (Str × V)
  | [] => [(f, v)]
  | (g, x) :: r => if g = f then (g, v) :: r else (g, x) :: putF f v r
theorem lookup_putF (f g : Str) (v : V) : ∀ fs : List (Str × V), (putF f v fs).lookup g = if g = f then some v else fs.lookup g
  | [] => by
    show List.lookup g [(f, v)] = _
    by_cases h : g = f
    · have hb : (g == f) = true := beq_iff_eq.mpr h
      simp only [List.lookup, hb, if_pos h]
    · have hb : (g == f) = false := beq_eq_false_iff_ne.mpr h
      simp only [List.lookup, hb, if_neg h]
  | (k, x) :: r => by
    have ih := lookup_putF f g v r
    rw [show putF f v ((k, x) :: r) = (if k = f then (k, v) :: r else (k, x) :: putF f v r) from rfl]
    by_cases hk : k = f
    · rw [if_pos hk]
      by_cases h : g = k
      · have hb : (g == k) = true := beq_iff_eq.mpr h
        simp only [List.lookup, hb, if_pos (h.trans hk)]
      · have hb : (g == k) = false := beq_eq_false_iff_ne.mpr h
        simp only [List.lookup, hb, if_neg (fun e : g = f => h (e.trans hk.symm))]
    · rw [if_neg hk]
      by_cases h : g = k
      · have hb : (g == k) = true := beq_iff_eq.mpr h
        simp only [List.lookup, hb, if_neg (fun e : g = f => hk (h.symm.trans e))]
      · have hb : (g == k) = false := beq_eq_false_iff_ne.mpr h
        simp only [List.lookup, hb]
        exact ih
theorem keys_putF (f : Str) (v : V) : ∀ fs : List (Str × V), f ∈ (putF f v fs).map (·.1) ∧ ∀ g, g ∈ fs.map (·.1) → g ∈ (putF f v fs).map (·.1)
  | [] => ⟨by simp [putF], fun g h => by simp at h⟩
  | (k, x) :: r => by
    obtain ⟨i1, i2⟩ := keys_putF f v r
    rw [show putF f v ((k, x) :: r) = (if k = f then (k, v) :: r else (k, x) :: putF f v r) from rfl]
    by_cases hk : k = f
    · rw [if_pos hk]
      subst hk
      exact ⟨by simp, fun g h => by simpa using h⟩
    · rw [if_neg hk]
      refine ⟨?_, fun g h => ?_⟩
      · rw [List.map_cons]
        exact List.mem_cons_of_mem _ i1
      · rw [List.map_cons] at h ⊢
        rcases List.mem_cons.mp h with e | e
        · exact List.mem_cons.mpr (.inl e)
        · exact List.mem_cons_of_mem _ (i2 g e)
theorem length_putF (f : Str) (v : V) : ∀ fs : List (Str × V), (putF f v fs).length ≤ fs.length + 1
  | [] => by simp [putF]
  | (k, x) :: r => by
    have ih := length_putF f v r
    rw [show putF f v ((k, x) :: r) = (if k = f then (k, v) :: r else (k, x) :: putF f v r) from rfl]
    by_cases hk : k = f
    · rw [if_pos hk, List.length_cons, List.length_cons]; omega
    · rw [if_neg hk, List.length_cons, List.length_cons]; omega

theorem RelO.some_of {v : V} {o : Option Value} (r : RelO (some v) o) : ∃ u, o = some u ∧ RelV v u := by
  cases o with
  | none => exact (show False from r).elim
  | some u => exact ⟨u, rfl, r⟩
theorem RelO.none_of {o : Option Value} (r : RelO none o) : o = none := by
  cases o with
  | none => rfl
  | some u => exact (show False from r).elim
theorem handed_of {v : V} {u : Value} (r : RelV v u) : PySem.W.handedIn u = true := by
  cases v with
  | non => cases (show u = Value.none from r); rfl
  | bl b => cases (show u = Value.bool b from r); rfl
  | int i => obtain ⟨t, e⟩ := (show ∃ t, u = Value.int i t from r); cases e; rfl
  | str x => obtain ⟨t, e⟩ := (show ∃ t, u = Value.str x t from r); cases e; rfl
  | byt b => obtain ⟨t, e⟩ := (show ∃ t, u = Value.bytes b t from r); cases e; rfl
  | flt b => obtain ⟨t, e⟩ := (show ∃ t, u = Value.float b t from r); cases e; rfl
  | ref a => cases (show u = Value.ref a from r); rfl
  | ty n => cases (show u = Value.type n from r); rfl

section
variable {P : Program} {w : World} {H H' : Hp} {h h' : Heap} {a C dx : Addr} {fs fs' : List (Str × V)}
theorem ins_get (hok : HOk P w H h) (e : H a = some (.ins C dx fs)) : ∃ mA, ObjM h a dx C mA ∧ (∀ f, RelO (fs.lookup f) (mA f)) ∧ PySem.Within mA (fs.map (·.1)) ∧ fs.length ≤ 1000 ∧ H dx = some (.own a) := by
  obtain ⟨d, z, ne, ob, mA, n, r, q⟩ := (show ObjOk P w H h a (.ins C dx fs) from hok a _ e)
  exact ⟨mA, ⟨ob, n, ne⟩, r, q, z, d⟩
end

/-! ### what of the text a class must have -/
structure Cls (K : PySem.W.Frag) (C : Addr) : Prop where
  pg : PySem.W.plainGet K C Str.empty = true
  hd : PySem.W.hasDictIn K C = true
  po : PySem.W.plainOver K C = true
  sa : PySem.W.findIn K (.ref C) "__setattr__" = some (some (.builtin "object.__setattr__"))
theorem Cls.get {K : PySem.W.Frag} {C : Addr} (c : Cls K C) (f : Str) : PySem.W.plainGet K C f = true := c.pg
/-- no class of it has the name -/
def NoAttr (K : PySem.W.Frag) (C : Addr) (f : Str) : Prop := PySem.W.findIn K (.ref C) f = some none
theorem NoAttr.taker {K : PySem.W.Frag} {C : Addr} {f : Str} (n : NoAttr K C f) : PySem.W.takerIn K C f = some none := by
  unfold PySem.W.takerIn
  rw [show PySem.W.findIn K (.ref C) f = some none from n]
  rfl
/-- a constant of the class -/
structure Con (K : PySem.W.Frag) (C : Addr) (f : Str) (v : V) (u : Value) : Prop where
  at_ : PySem.W.findIn K (.ref C) f = some (some u)
  rel : RelV v u
  get : PySem.W.specialIn K u "__get__" = some none
  cp : PySem.W.copiedNames.contains f = false
/-- a method: a plain def of the class or of one above it -/
structure Meth (K : PySem.W.Frag) (C : Addr) (m : Str) (f : Addr) : Prop where
  at_ : PySem.W.findIn K (.ref C) m = some (some (.ref f))
  fn : PySem.W.isFn K (.ref f) = true
  kp : PySem.W.keepIn K (.ref f) = true

section
variable {X : Cx} {pins : List (Addr × Obj)} {σ : St} {H : Hp} {s : Shared} {a C dx : Addr} {fs : List (Str × V)} {f : Str} {v : V} {A : Around} {E : Value → Shared → Prop}

theorem getattr_ok {b : Bool} {Q : Value → Shared → Prop} (I : Inv X pins σ H s) (e : H a = some (.ins C dx fs)) (c : Cls X.K C) (n : NoAttr X.K C f) (l : fs.lookup f = some v)
    (h : ∀ u s', Inv X pins σ H s' → RelV v u → Q u s') : wpAny (model X.prog X.w) A (getAttr (.ref a) f b) Q E s := by
  obtain ⟨mA, O, r, _, _, _⟩ := ins_get I.hok e
  obtain ⟨u, hu, ru⟩ := RelO.some_of (v := v) (o := mA f) (by rw [← l]; exact r f)
  exact get_map I.kIn O (c.get f) c.hd n hu (handed_of ru) (h u _ (I.tok _) ru)

theorem getcon_ok {b : Bool} {u : Value} {Q : Value → Shared → Prop} (I : Inv X pins σ H s) (e : H a = some (.ins C dx fs)) (c : Cls X.K C) (k : Con X.K C f v u) (l : fs.lookup f = none)
    (h : ∀ s', Inv X pins σ H s' → Q u s') : wpAny (model X.prog X.w) A (getAttr (.ref a) f b) Q E s := by
  obtain ⟨mA, O, r, _, _, _⟩ := ins_get I.hok e
  have hn : mA f = none := RelO.none_of (by rw [← l]; exact r f)
  exact get_const I.kIn O (c.get f) c.hd k.at_ k.get k.cp hn (handed_of k.rel) (h _ (I.tok _))

theorem getmeth_ok {m : Str} {g : Addr} {pl : Sem Bool} {Q : Value × List Value → Shared → Prop} (I : Inv X pins σ H s) (e : H a = some (.ins C dx fs)) (c : Cls X.K C) (k : Meth X.K C m g) (l : fs.lookup m = none)
    (h : Q (.ref g, [.ref a]) s) : wpAny (model X.prog X.w) A (getMethod (.ref a) m pl) Q E s := by
  obtain ⟨mA, O, r, _, _, _⟩ := ins_get I.hok e
  have hn : mA m = none := RelO.none_of (by rw [← l]; exact r m)
  exact get_meth I.kIn O (c.get m) k.at_ k.fn hn h

theorem setattr_ok {y : V} {u : Value} {Q : Unit → Shared → Prop} (I : Inv X pins σ H s) (e : H a = some (.ins C dx fs)) (c : Cls X.K C) (n : NoAttr X.K C f) (hl : fs.length < 1000) (ry : RelV y u)
    (h : ∀ s', Inv X pins σ (upd H a (.ins C dx (putF f y fs))) s' → Q () s') : wpAny (model X.prog X.w) A (setAttr (.ref a) f u) Q E s := by
  obtain ⟨mA, O, r, wi, _, ho⟩ := ins_get I.hok e
  have hz : (fs.map (·.1)).length ≤ sizeLine := by rw [List.length_map, sizeLine_eq]; omega
  refine set_map I.kIn O c.sa c.po n.taker c.hd wi hz fun h' O' sb => h _ ?_
  have hd : ∃ o, h'.get? dx = some o := let ⟨o, _, _, e', _⟩ := O'.ns; ⟨o, e'⟩
  refine I.write (x := a) (e := dx) (by rw [e]; exact True.intro) (.inr ho) (fun b q hb z => (sb.2 b hb).trans z) hd ?_
  refine ⟨by rw [upd_ne O.ne]; exact ho, ?_, O.ne, O'.obj, _, O'.ns, fun g => ?_, fun g hg => ?_⟩
  · have := length_putF f y fs; omega
  · show RelO ((putF f y fs).lookup g) (if g = f then some u else mA g)
    rw [lookup_putF]
    by_cases q : g = f
    · rw [if_pos q, if_pos q]; exact ry
    · rw [if_neg q, if_neg q]; exact r g
  · by_cases q : g = f
    · rw [q]; exact (keys_putF f y fs).1
    · refine (keys_putF f y fs).2 g (wi g fun z => hg ?_)
      show (if g = f then some u else mA g) = none
      rw [if_neg q]; exact z

/-- a new instance, tracked, without attributes -/
theorem Inv.made (I : Inv X pins σ H s) : Inv X pins σ (upd (upd H s.heap.objs.size (.own (s.heap.objs.size + 1))) (s.heap.objs.size + 1) (.ins C s.heap.objs.size []))
    { s with heap := (s.heap.push PySem.W.emptyDict).push (PySem.W.instObj C s.heap.objs.size) } := by
  have e1 : (s.heap.push PySem.W.emptyDict).get? s.heap.objs.size = some PySem.W.emptyDict := Heap.get?_push_size s.heap rfl
  have e2 : ((s.heap.push PySem.W.emptyDict).push (PySem.W.instObj C s.heap.objs.size)).get? (s.heap.objs.size + 1) = some (PySem.W.instObj C s.heap.objs.size) := by
    have := Heap.get?_push_size (s.heap.push PySem.W.emptyDict) (o := PySem.W.instObj C s.heap.objs.size) rfl
    rwa [Heap.size_push] at this
  have e3 : (s.heap.push PySem.W.emptyDict).Ns s.heap.objs.size (fun _ => none) := ⟨PySem.W.emptyDict, #[], _, e1, rfl, (fun e he => absurd he (by simp)), fun _ => rfl⟩
  have I1 := I.laid (a := s.heap.objs.size) (o := .own (s.heap.objs.size + 1)) (h' := s.heap.push PySem.W.emptyDict) (t' := s.toks) (fun b u q => Heap.get?_push_of_some _ q) (Nat.le_refl _) ⟨_, e1⟩
  refine I1.laid (a := s.heap.objs.size + 1) (o := .ins C s.heap.objs.size []) (t' := s.toks) (fun b u q => Heap.get?_push_of_some _ q) (Nat.le_of_eq (Heap.size_push _ _)) ?_
  have ne : s.heap.objs.size ≠ s.heap.objs.size + 1 := Nat.ne_of_lt (Nat.lt_succ_self _)
  refine ⟨by rw [upd_ne ne, upd_same], Nat.zero_le _, ne, e2, fun _ => none, (Heap.Ns1.of_empty e3).at fun o q => Heap.get?_push_of_some _ q, fun _ => True.intro, fun y hy => absurd rfl hy⟩

/-- e.f where nothing but the object is asked: through attributeBase (super) and the last hold -/
theorem attr_of {prog : Program} {w : World} {env : Env} {e : Expr} {f : Str} {pos : Pos} {s : Shared} {Q : Value → Shared → Prop} (hb : attributeBase e f env (eval e env) = eval e env)
    (h : wpAny (model prog w) A (eval e env) (fun o s₁ => wpAny (model prog w) A (getAttr o f true) Q E s₁) E s) : wpAny (model prog w) A (eval (.Attribute e f pos) env) Q E s :=
  Attribute_any_ h (by rw [arm_eval_Attribute, hb])
end

/-! ### readings and rules -/
/-- e.f, an attribute of the instance -/
def tFld (K : PySem.W.Frag) (ta : TE) (f : Str) : TE := fun σ H Q => ta σ H fun x H1 => ∃ a C dx fs v, x = .ref a ∧ H1 a = some (.ins C dx fs) ∧ Cls K C ∧ NoAttr K C f ∧ fs.lookup f = some v ∧ Q v H1
/-- e.f, a constant of the class -/
def tCon (K : PySem.W.Frag) (ta : TE) (f : Str) : TE := fun σ H Q => ta σ H fun x H1 => ∃ a C dx fs v u, x = .ref a ∧ H1 a = some (.ins C dx fs) ∧ Cls K C ∧ Con K C f v u ∧ fs.lookup f = none ∧ Q v H1
/-- e.f = value -/
def sFld (K : PySem.W.Frag) (ta tv : TE) (f : Str) : TS := fun D σ H => tv σ H fun y H1 => ta σ H1 fun x H2 => ∃ a C dx fs, x = .ref a ∧ H2 a = some (.ins C dx fs) ∧ Cls K C ∧ NoAttr K C f ∧ fs.length < 1000 ∧
  D.nx σ (upd H2 a (.ins C dx (putF f y fs)))
/-- an augmented operator on two values -/
def InOp (X : Cx) (op : Operator) (rd : V → V → Hp → VK → Prop) : Prop :=
  ∀ (pins : List (Addr × Obj)) (s : Shared) (σ : St) (H : Hp) (x y : V) (u v : Value) (Q : VK), Inv X pins σ H s → RelV x u → RelV y v → rd x y H Q → wpAny (model X.prog X.w) X.A (inplaceOp op u v) (EP X pins σ Q) X.xe s
/-- e.f op= value -/
def sFldAug (K : PySem.W.Frag) (ta tv : TE) (rd : V → V → Hp → VK → Prop) (f : Str) : TS := fun D σ H => ta σ H fun x H1 => ∃ a C dx fs v, x = .ref a ∧ H1 a = some (.ins C dx fs) ∧ Cls K C ∧ NoAttr K C f ∧ fs.lookup f = some v ∧
  tv σ H1 fun y H2 => rd v y H2 fun z H3 => ∃ dx' fs', H3 a = some (.ins C dx' fs') ∧ fs'.length < 1000 ∧ D.nx σ (upd H3 a (.ins C dx' (putF f z fs')))

section
variable {X : Cx} {o e value : Expr} {f : Str} {pos pos' tpos : Pos} {ta tv : TE}
theorem pe_fld (he : PE X e ta) (hb : attributeBase e f X.env (eval e X.env) = eval e X.env) : PE X (.Attribute e f pos) (tFld X.K ta f) := by
  intro pins s σ H Q I h
  refine attr_of hb (thn (he pins s σ H _ I h) fun u s1 ⟨x, H1, I1, rx, a, C, dx, fs, v, ex, ea, c, n, l, q⟩ => ?_)
  subst ex
  obtain rfl : u = Value.ref a := rx
  exact getattr_ok I1 ea c n l fun u' s2 I2 ru => ⟨v, H1, I2, ru, q⟩
theorem pe_con (he : PE X e ta) (hb : attributeBase e f X.env (eval e X.env) = eval e X.env) : PE X (.Attribute e f pos) (tCon X.K ta f) := by
  intro pins s σ H Q I h
  refine attr_of hb (thn (he pins s σ H _ I h) fun u s1 ⟨x, H1, I1, rx, a, C, dx, fs, v, u0, ex, ea, c, k, l, q⟩ => ?_)
  subst ex
  obtain rfl : u = Value.ref a := rx
  exact getcon_ok I1 ea c k l fun s2 I2 => ⟨v, H1, I2, k.rel, q⟩
theorem ps_fld (ha : PE X o ta) (hv : PE X value tv) (hs : swapsWith value (some (.Attribute o f pos')) pos.line X.env = pure false) : PS X (.Assign [.Attribute o f pos'] value pos) (sFld X.K ta tv f) := by
  intro pins s σ H D I h
  refine plainObj_wpAny_Assign_Attribute (thn (hv pins s σ H _ I h) fun u s1 ⟨y, H1, I1, ry, q⟩ => thn (ha pins s1 σ H1 _ I1 q) fun ov s2 ⟨x, H2, I2, rx, a, C, dx, fs, ex, ea, c, n, l, q2⟩ => ?_) hs
  subst ex
  obtain rfl : ov = Value.ref a := rx
  exact setattr_ok I2 ea c n l ry fun s3 I3 => ⟨σ, _, I3, q2⟩
theorem ps_fldaug {op : Operator} {rd : V → V → Hp → VK → Prop} (ha : PE X o ta) (hv : PE X value tv) (hop : InOp X op rd) : PS X (.AugAssign (.Attribute o f tpos) op value pos) (sFldAug X.K ta tv rd f) := by
  intro pins s σ H D I h
  refine wpAny_AugAssign_AttributeAny (thn (ha pins s σ H _ I h) fun ov s1 ⟨x, H1, I1, rx, a, C, dx, fs, v, ex, ea, c, n, l, q⟩ => ?_)
  subst ex
  obtain rfl : ov = Value.ref a := rx
  refine getattr_ok I1 ea c n l fun u s2 I2 ru => thn (hv pins s2 σ H1 _ I2 q) fun w3 s3 ⟨y, H2, I3, ry, q3⟩ => thn (hop pins s3 σ H2 v y u w3 _ I3 ru ry q3) fun w4 s4 ⟨z, H3, I4, rz, dx', fs', ea', l', q4⟩ => ?_
  exact setattr_ok I4 ea' c n l' rz fun s5 I5 => ⟨σ, _, I5, q4⟩
def rAdd : V → V → Hp → VK → Prop := fun x y H Q => ∃ i j, x = .int i ∧ y = .int j ∧ Q (.int (i + j)) H
def rSub : V → V → Hp → VK → Prop := fun x y H Q => ∃ i j, x = .int i ∧ y = .int j ∧ Q (.int (i - j)) H
theorem in_add : InOp X .Add rAdd := by
  rintro pins s σ H x y u v Q I rx ry ⟨i, j, rfl, rfl, q⟩
  obtain ⟨t, rfl⟩ := (show ∃ t, u = Value.int i t from rx)
  obtain ⟨t', rfl⟩ := (show ∃ t', v = Value.int j t' from ry)
  exact PyProof.Rows.iadd_int ⟨.int (i + j), H, I.tok _, ⟨_, rfl⟩, q⟩
theorem in_sub : InOp X .Sub rSub := by
  rintro pins s σ H x y u v Q I rx ry ⟨i, j, rfl, rfl, q⟩
  obtain ⟨t, rfl⟩ := (show ∃ t, u = Value.int i t from rx)
  obtain ⟨t', rfl⟩ := (show ∃ t', v = Value.int j t' from ry)
  exact PyProof.Rows.isub_int ⟨.int (i - j), H, I.tok _, ⟨_, rfl⟩, q⟩

/-- what is between an instance and its method: the tree of a method call -/
theorem methcall_of {pl : Sem Bool} {m : Str} {apos : Pos} {args : List Expr} {pins : List (Addr × Obj)} {s : Shared} {σ : St} {H : Hp} {Q : Value → Shared → Prop} {te : TE} (he : PE X e te) (I : Inv X pins σ H s)
    (h : te σ H fun x H1 => ∃ a C dx fs g, x = .ref a ∧ H1 a = some (.ins C dx fs) ∧ Cls X.K C ∧ Meth X.K C m g ∧ fs.lookup m = none ∧
      ∀ s1, Inv X pins σ H1 s1 → wpAny (model X.prog X.w) X.A (callWith pos (.ref g) [.ref a] (backTo pos (starEach args X.env)) (backToKw pos (keywordEach [] X.env))) Q X.xe s1)
    (ht : eval (.Call (.Attribute e m apos) args [] pos) X.env = (do
      let ov ← eval e X.env
      standAt apos.atName
      let (f, first) ← holding [ov] (getMethod ov m pl)
      callWith pos f first (backTo pos (starEach args X.env)) (backToKw pos (keywordEach [] X.env)))) :
    wpAny (model X.prog X.w) X.A (eval (.Call (.Attribute e m apos) args [] pos) X.env) Q X.xe s := by
  refine PySem.W.methodCall_KW (pl := pl) (thn (he pins s σ H _ I h) fun u s1 ⟨x, H1, I1, rx, a, C, dx, fs, g, ex, ea, c, k, l, q⟩ => ?_) ht
  subst ex
  obtain rfl : u = Value.ref a := rx
  exact getmeth_ok I1 ea c k l (q s1 I1)
end

/-! ### isinstance -/
section
variable {X : Cx} {pins : List (Addr × Obj)} {σ : St} {H : Hp} {s : Shared} {A : Around} {E : Value → Shared → Prop} {Q : Value → Shared → Prop} {c : Value} {b : Bool}
/-- the type of a value, as the fragment's deciders take it; for an instance its class -/
inductive TyOf (K : PySem.W.Frag) (H : Hp) : V → Value → Prop where
  | non : TyOf K H .non (.type "NoneType")
  | bl (x : Bool) : TyOf K H (.bl x) (.type "bool")
  | int (i : Int) : TyOf K H (.int i) (.type "int")
  | str (x : Str) : TyOf K H (.str x) (.type "str")
  | flt (x : UInt64) : TyOf K H (.flt x) (.type "float")
  | lst {a : Addr} {xs : List V} (e : H a = some (.lst xs)) : TyOf K H (.ref a) (.type "list")
  | frz {a : Addr} {o : Obj} {xs : List V} (e : H a = some (.frz o (.lst xs))) : TyOf K H (.ref a) (.type "list")
  | tup {a : Addr} {xs : List V} (e : H a = some (.tup xs)) : TyOf K H (.ref a) (.type "tuple")
  | dK {a : Addr} {kvs : List (Key × V)} (e : H a = some (.dK kvs)) : TyOf K H (.ref a) (.type "dict")
  | dT {a : Addr} {kvs : List (List Key × V)} (e : H a = some (.dT kvs)) : TyOf K H (.ref a) (.type "dict")
  | ins {a C dx : Addr} {fs : List (Str × V)} (e : H a = some (.ins C dx fs)) (cl : Cls K C) (ha : PySem.W.findIn K (.ref C) "__class__" = some (some (.builtin "object.__class__")))
      (hn : PySem.W.specialIn K (.builtin "object.__class__") "__get__" = some (some (.builtin "getset_descriptor.__get__"))) (htk : PySem.W.takesIn K (.builtin "object.__class__") = some true)
      (hm : PySem.W.mroIn K C (.type "object") = some true) : TyOf K H (.ref a) (.ref C)
/-- isinstance(x, c) for one class c, a built-in or an own one: kitOne's answer -/
theorem isinst_ok {x : V} {u t : Value} (I : Inv X pins σ H s) (rx : RelV x u) (ty : TyOf X.K H x t) (e : PySem.W.kitOne X.K t c = some b) (h : ∀ tk, Q (.bool b) { s with toks := tk }) :
    wpAny (model X.prog X.w) A (call (.builtin "isinstance") [u, c]) Q E s := by
  cases ty with
  | non => cases (show u = Value.none from rx); exact PySem.W.kia_one PySem.W.kitx_none I.kIn True.intro e (fun z => nomatch z) h
  | bl y => cases (show u = Value.bool y from rx); exact PySem.W.kia_one PySem.W.kitx_bool I.kIn True.intro e (fun z => nomatch z) h
  | int i => obtain ⟨t, q⟩ := (show ∃ t, u = Value.int i t from rx); cases q; exact PySem.W.kia_one PySem.W.kitx_int I.kIn True.intro e (fun z => nomatch z) h
  | str y => obtain ⟨t, q⟩ := (show ∃ t, u = Value.str y t from rx); cases q; exact PySem.W.kia_one PySem.W.kitx_str I.kIn True.intro e (fun z => nomatch z) h
  | flt y => obtain ⟨t, q⟩ := (show ∃ t, u = Value.float y t from rx); cases q; exact PySem.W.kia_one PySem.W.kitx_float I.kIn True.intro e (fun z => nomatch z) h
  | @lst a xs ea =>
    cases (show u = Value.ref a from rx)
    obtain ⟨_, _, n, _, h1⟩ := (show ObjOk X.prog X.w H s.heap a (.lst xs) from I.hok a _ ea)
    exact PySem.W.kia_one PySem.W.kitx_list I.kIn ⟨_, h1, rfl⟩ e (fun z => nomatch z) h
  | @frz a ob xs ea =>
    cases (show u = Value.ref a from rx)
    obtain ⟨_, _, _, n, _, h1⟩ := (show ObjOk X.prog X.w H s.heap a (.frz ob (.lst xs)) from I.hok a _ ea)
    exact PySem.W.kia_one PySem.W.kitx_list I.kIn ⟨_, h1, rfl⟩ e (fun z => nomatch z) h
  | @tup a xs ea =>
    cases (show u = Value.ref a from rx)
    obtain ⟨_, _, _, p⟩ := (show ObjOk X.prog X.w H s.heap a (.tup xs) from I.hok a _ ea)
    obtain ⟨o, h1, h2, _⟩ := p
    exact PySem.W.kia_one PySem.W.kitx_tuple I.kIn ⟨o, h1, h2⟩ e (fun z => nomatch z) h
  | @dK a kvs ea =>
    cases (show u = Value.ref a from rx)
    obtain ⟨_, _, vs, _, p⟩ := (show ObjOk X.prog X.w H s.heap a (.dK kvs) from I.hok a _ ea)
    obtain ⟨o, es, ep, h1, h2, _⟩ := p
    exact PySem.W.kia_one PySem.W.kitx_dict I.kIn ⟨o, h1, h2.1⟩ e (fun z => nomatch z) h
  | @dT a kvs ea =>
    cases (show u = Value.ref a from rx)
    obtain ⟨_, _, xs, _, o, es, ep, h1, h2, _⟩ := (show ObjOk X.prog X.w H s.heap a (.dT kvs) from I.hok a _ ea)
    exact PySem.W.kia_one PySem.W.kitx_dict I.kIn ⟨o, h1, h2.1⟩ e (fun z => nomatch z) h
  | @ins a C dx fs ea cl ha hn htk hm =>
    cases (show u = Value.ref a from rx)
    obtain ⟨mA, O, _⟩ := ins_get I.hok ea
    obtain ⟨od, J, _⟩ := O.look
    exact PySem.W.kia_one (PySem.W.kitx_own (cl.get _) cl.hd ha hn htk hm) I.kIn J e (fun z => nomatch z) h
end
end L2

namespace L2
open PySem PySem.Spec PyProof.Rows

/-! ### room -/
structure Room (k : Nat) (A : Around) : Prop where
  hd : A.handled = none
  dp : A.depth + 3 * k + 5 < recursionLimit
  un : A.units + 16 * k + 200 < cLine
theorem Room.mono {j k : Nat} {A : Around} (r : Room k A) (h : j ≤ k) : Room j A := ⟨r.hd, by have := r.dp; omega, by have := r.un; omega⟩
theorem Room.deeper {k : Nat} {A : Around} (r : Room (k + 1) A) (env : Env) : Room k (A.deeper env) :=
  ⟨r.hd, by have := r.dp; show A.depth + 1 + 3 * k + 5 < _; omega, by have := r.un; show A.units + 3 + 16 * k + 200 < _; omega⟩
theorem Room.in1 {k : Nat} {A : Around} (r : Room (k + 1) A) : Room k A.in1 :=
  ⟨r.hd, by have := r.dp; show A.depth + 3 * k + 5 < _; omega, by have := r.un; show A.units + 1 + 16 * k + 200 < _; omega⟩
theorem make_depth {A : Around} {C : Addr} {us : List Value} {kw : List (Str × Value)} : (A.under (.builtin "type.__call__" ⟨.ref C :: us, kw⟩)).depth = A.depth + 1 := by
  first | rfl | simp [Around.under, Code.weight, Code.isCreation, Code.isGuard, Code.isCaller, Code.frames, Code.isFrame, guardIds]
theorem make_units {A : Around} {C : Addr} {us : List Value} {kw : List (Str × Value)} : (A.under (.builtin "type.__call__" ⟨.ref C :: us, kw⟩)).units = A.units + 1 := by
  first | rfl | simp [Around.under, Code.cUnits, Code.frames, Code.isFrame]
theorem Room.make {k : Nat} {A : Around} (r : Room (k + 1) A) (C : Addr) (us : List Value) (kw : List (Str × Value)) : Room k (A.under (.builtin "type.__call__" ⟨.ref C :: us, kw⟩)) :=
  ⟨r.hd, by have := r.dp; rw [make_depth]; omega, by have := r.un; rw [make_units]; omega⟩
theorem Room.depth {k : Nat} {A : Around} (r : Room k A) : A.depth < recursionLimit := by have := r.dp; omega
theorem Room.units {k : Nat} {A : Around} (r : Room k A) : A.units + 64 < cLine := by have := r.un; omega
theorem Room.units0 {k : Nat} {A : Around} (r : Room k A) : A.units < cLine := by have := r.un; omega

/-! ### argument lists and displays -/
def tNil : TA := fun _ H Q => Q [] H
def tCons (ta : TE) (tr : TA) : TA := fun σ H Q => ta σ H fun x H1 => tr σ H1 fun xs H2 => Q (x :: xs) H2
section
variable {X : Cx} {e : Expr} {es : List Expr} {te : TE} {t : TA} {pos : Pos}
theorem pa_nil : PA X [] tNil := fun _ _ _ _ H Q I h => Calls.spliced_nil ⟨[], H, I, .nil, h⟩
theorem pa_cons (ha : PE X e te) (hr : PA X es t) (hs : starEach (e :: es) X.env = (false, eval e X.env) :: starEach es X.env := by rfl) : PA X (e :: es) (tCons te t) := by
  intro pos pins s σ H Q I h
  rw [hs]
  show wpAny _ _ (spliced ((false, eval e X.env) :: backTo pos (starEach es X.env))) _ _ s
  refine Calls.spliced_cons (thn (ha pins s σ H _ I h) fun u s1 ⟨x, H1, I1, r1, q1⟩ => ?_)
  exact thn (hr pos pins s1 σ H1 _ I1 q1) fun us s2 ⟨xs, H2, I2, r2, q2⟩ => ⟨x :: xs, H2, I2, .cons r1 r2, q2⟩

/-- a tuple, a list of written items -/
def tTup (t : TA) : TE := fun σ H Q => t σ H fun xs H1 => xs.length ≤ sizeLine ∧ ∀ p, H1 p = none → Q (.ref p) (upd H1 p (.tup xs))
def tLst (t : TA) : TE := fun σ H Q => t σ H fun xs H1 => xs.length ≤ sizeLine ∧ ∀ p, H1 p = none → Q (.ref p) (upd H1 p (.lst xs))
theorem pe_tup {x1} (h : PA X es t) : PE X (.Tuple es x1 pos) (tTup t) := by
  intro pins s σ H Q I hq
  refine wpAny_Tuple_spliced (thn (h pos pins s σ H _ I hq) fun us s1 ⟨xs, H1, I1, r, z, q⟩ => ⟨by rw [← r.length]; exact z, ?_⟩)
  have hf : H1 s1.heap.objs.size = none := I1.hok.fresh (Nat.le_refl _)
  refine ⟨.ref s1.heap.objs.size, upd H1 s1.heap.objs.size (.tup xs), I1.laid (t' := s1.toks) (fun b u e => Heap.get?_push_of_some _ e) (Nat.le_refl _) ?_, rfl, q _ hf⟩
  exact ⟨z, us, r, ⟨_, Heap.get?_push_size _ rfl, rfl, _, rfl⟩⟩
theorem pe_lst (h : PA X es t) : PE X (.List es pos) (tLst t) := by
  intro pins s σ H Q I hq
  refine wpAny_List_spliced (thn (h pos pins s σ H _ I hq) fun us s1 ⟨xs, H1, I1, r, z, q⟩ => ⟨by rw [← r.length]; exact z, ?_⟩)
  have hf : H1 s1.heap.objs.size = none := I1.hok.fresh (Nat.le_refl _)
  refine ⟨.ref s1.heap.objs.size, upd H1 s1.heap.objs.size (.lst xs), I1.laid (t' := s1.toks) (fun b u e => Heap.get?_push_of_some _ e) (Nat.le_refl _) ?_, rfl, q _ hf⟩
  exact ⟨z, us, 0, r, Heap.get?_push_size _ rfl⟩
end

/-! ### what a def promises -/
/-- a def's promise: the bound arguments in the parameters' order, the heap, the wanted end, the wanted exception -/
abbrev Sp := List V → Hp → VK → XK → Prop
/-- how an exception lies behind a call (file 08 gives it): the callers' frames, abstract heap and state ahead of the call, the wish, the exception, the state -/
abbrev CXT := List Env → Hp → Shared → XK → Value → Shared → Prop

/-- the state at a call -/
structure Env0 (P : Program) (w : World) (K : PySem.W.Frag) (mg : Str → Option Value) (base : Heap) (A : Around) (outer : List Env) (s : Shared) (H : Hp) : Prop where
  frames : A.frames = some outer
  mod : Mod K mg base
  bs : ∀ b o, base.get? b = some o → s.heap.get? b = some o ∧ H b = none
  bsz : base.objs.size ≤ s.heap.objs.size
  funs : s.heap.FunFrames base outer
  frf : ∀ b ∈ frs outer, H b = none
  hok : HOk P w H s.heap
  bare : AllBare s.gens
/-- a call's end -/
def CE (outer : List Env) (P : Program) (w : World) (H : Hp) (s : Shared) (Q : VK) (u : Value) (s' : Shared) : Prop :=
  ∃ v H', s'.os = s.os ∧ AllBare s'.gens ∧ Un (frs outer) [] H H' s.heap s'.heap ∧ HOk P w H' s'.heap ∧ RelV v u ∧ Q v H'
def CR (CX : CXT) (outer : List Env) (P : Program) (w : World) (H : Hp) (s : Shared) (Q : VK) (E : XK) (r : Result) (s' : Shared) : Prop :=
  match r with
  | .ok (.ret u) => CE outer P w H s Q u s'
  | .ok _ => False
  | .error e => CX outer H s E e s'
structure FnOk (P : Program) (w : World) (K : PySem.W.Frag) (mg : Str → Option Value) (base : Heap) (CX : CXT) (k : Nat) (f : Addr) (fd : FuncData) (ps : List Str) (sp : Sp) : Prop where
  len : ∀ vs H Q E, sp vs H Q E → vs.length = ps.length
  run : ∀ (A : Around) (outer : List Env) (s : Shared) (H : Hp) (args : Args) (us : List Value) (vs : List V) (Q : VK) (E : XK), Room k A → Env0 P w K mg base A outer s H → BindsTo s fd args (ps.zip us) → Vals vs us → sp vs H Q E →
    codeAny (model P w) A (.call (.ref f) args) (CR CX outer P w H s Q E) s
theorem FnOk.mono {P : Program} {w : World} {K : PySem.W.Frag} {mg : Str → Option Value} {base : Heap} {CX : CXT} {j k : Nat} {f : Addr} {fd : FuncData} {ps : List Str} {sp : Sp} (F : FnOk P w K mg base CX j f fd ps sp) (h : j ≤ k) :
    FnOk P w K mg base CX k f fd ps sp := ⟨F.len, fun A outer s H args us vs Q E hr => F.run A outer s H args us vs Q E (hr.mono h)⟩
/-- a weaker promise -/
theorem FnOk.imp {P : Program} {w : World} {K : PySem.W.Frag} {mg : Str → Option Value} {base : Heap} {CX : CXT} {k : Nat} {f : Addr} {fd : FuncData} {ps : List Str} {sp sp' : Sp} (F : FnOk P w K mg base CX k f fd ps sp)
    (h : ∀ vs H Q E, sp' vs H Q E → sp vs H Q E) : FnOk P w K mg base CX k f fd ps sp' :=
  ⟨fun vs H Q E q => F.len vs H Q E (h _ _ _ _ q), fun A outer s H args us vs Q E hr he hb hv hs => F.run A outer s H args us vs Q E hr he hb hv (h _ _ _ _ hs)⟩

theorem Env0.make {P : Program} {w : World} {K : PySem.W.Frag} {mg : Str → Option Value} {base : Heap} {A : Around} {outer : List Env} {s : Shared} {H : Hp} (e : Env0 P w K mg base A outer s H) (C : Addr) (us : List Value) (kw : List (Str × Value)) :
    Env0 P w K mg base (A.under (.builtin "type.__call__" ⟨.ref C :: us, kw⟩)) outer s H := ⟨by first | exact e.frames | (simpa [Around.under, Code.envs, Code.isFrame, pushEnvs] using e.frames), e.mod, e.bs, e.bsz, e.funs, e.frf, e.hok, e.bare⟩
theorem Env0.in1 {P : Program} {w : World} {K : PySem.W.Frag} {mg : Str → Option Value} {base : Heap} {A : Around} {outer : List Env} {s : Shared} {H : Hp} (e : Env0 P w K mg base A outer s H) :
    Env0 P w K mg base A.in1 outer s H := ⟨e.frames, e.mod, e.bs, e.bsz, e.funs, e.frf, e.hok, e.bare⟩

section
variable {X : Cx} {pins : List (Addr × Obj)} {σ : St} {H : Hp} {s s' : Shared}
/-- from a body: what a callee wants -/
theorem Inv.env0 (I : Inv X pins σ H s) : Env0 X.prog X.w X.K X.mg X.base X.A X.stack s H :=
  ⟨I.ok.frames, I.ok.mod, I.bs, Nat.le_trans I.ok.bsz I.sz, I.stack, I.stkFree, I.hok, I.bare⟩
/-- behind a call -/
theorem Inv.after {Q : VK} {u : Value} (I : Inv X pins σ H s) (h : CE X.stack X.prog X.w H s Q u s') : EP X pins σ Q u s' := by
  obtain ⟨v, H', os, bare, un, hok, r, q⟩ := h
  obtain ⟨hh, g, d, t, os'⟩ := s'
  obtain rfl : os' = s.os := os
  exact ⟨v, H', I.call (h' := hh) (g' := g) (d' := d) (t' := t) (ch := []) un hok bare (fun b z => absurd z (by simp)), r, q⟩
end

/-! ### calls -/
/-- f(..): the written arguments, then the defaults dvs; E: what is wanted of an exception -/
def tCall (sp : Sp) (dvs : List V) (E : XK) (t : TA) : TE := fun σ H Q => t σ H fun vs H1 => sp (vs ++ dvs) H1 Q E
/-- o.m(..) of an instance of the class at C -/
def tMeth (C : Addr) (m : Str) (sp : Sp) (dvs : List V) (E : XK) (ta : TE) (t : TA) : TE := fun σ H Q => ta σ H fun x H1 => ∃ a dx fs, x = .ref a ∧ H1 a = some (.ins C dx fs) ∧ fs.lookup m = none ∧
  t σ H1 fun vs H2 => sp (x :: (vs ++ dvs)) H2 Q E
/-- C(..): a new instance and its dict, then __init__ -/
def tMake (C : Addr) (sp : Sp) (dvs : List V) (E : XK) (t : TA) : TE := fun σ H Q => t σ H fun vs H1 => ∀ x dx, H1 x = none → H1 dx = none → dx ≠ x →
  sp (.ref x :: (vs ++ dvs)) (upd (upd H1 dx (.own x)) x (.ins C dx [])) (fun v H2 => v = .non ∧ Q (.ref x) H2) E

/-- how the parameters are bound: us the positional arguments, kw the keywords' values by name, ds the defaults that fill up -/
def Binds (K : PySem.W.Frag) (fd : FuncData) (ps : List Str) (ds : List Value) : Prop :=
  ∀ (s : Shared) (us : List Value), K.In s.heap → (us ++ ds).length = ps.length → BindsTo s fd ⟨us, []⟩ (ps.zip (us ++ ds))
/-- every parameter is given -/
theorem Binds.all {K : PySem.W.Frag} {fd : FuncData} {ps : List Str} (h : ∀ us : List Value, us.length = ps.length → bindArgs fd ⟨us, []⟩ = pure (ps.zip us)) : Binds K fd ps [] := fun s us _ hl => by
  rw [List.append_nil] at hl ⊢
  exact .of_eq (h us hl)

/-- an exception of a callee reaches what this body wants of exceptions -/
def Passes (CX : CXT) (X : Cx) (E : XK) : Prop := ∀ (pins : List (Addr × Obj)) (σ : St) (H : Hp) (s : Shared) (e : Value) (s' : Shared), Inv X pins σ H s → CX X.stack H s E e s' → X.xe e s'

section
variable {X : Cx} {CX : CXT} {k : Nat} {f C : Addr} {fd : FuncData} {ps : List Str} {sp : Sp} {dvs : List V} {ds : List Value} {E : XK} {x m : Str} {p pos apos : Pos} {e o : Expr} {es : List Expr} {ta : TE} {t : TA}

/-- the callee runs -/
theorem run_fn {pins : List (Addr × Obj)} {σ : St} {H : Hp} {s : Shared} {Q : VK} {us : List Value} {vs : List V} (F : FnOk X.prog X.w X.K X.mg X.base CX k f fd ps sp) (hr : Room k X.A) (hb : Binds X.K fd ps ds) (hd : Vals dvs ds) (hx : Passes CX X E)
    (I : Inv X pins σ H s) (r : Vals vs us) (h : sp (vs ++ dvs) H Q E) : wpAny (model X.prog X.w) X.A (call (.ref f) us) (EP X pins σ Q) X.xe s := by
  have r2 : Vals (vs ++ dvs) (us ++ ds) := r.append hd
  have hl : (us ++ ds).length = ps.length := by rw [← r2.length]; exact F.len _ _ _ _ h
  refine wpAny_call (codeAny_mono (F.run X.A X.stack s H ⟨us, []⟩ (us ++ ds) (vs ++ dvs) Q E hr I.env0 (hb s us I.kIn hl) r2 h) fun r s' hq => ?_)
  cases r with
  | error e => exact hx pins σ H s e s' I hq
  | ok fl =>
    cases fl with
    | ret u => exact I.after hq
    | next => exact False.elim hq
    | brk => exact False.elim hq
    | cont => exact False.elim hq

theorem pe_call (F : FnOk X.prog X.w X.K X.mg X.base CX k f fd ps sp) (hr : Room k X.A) (hg : Gl X x) (hm : X.mg x = some (.ref f)) (hk : PySem.W.keepIn X.K (.ref f) = true) (hb : Binds X.K fd ps ds) (hd : Vals dvs ds) (hx : Passes CX X E)
    (ha : PA X (e :: es) t) (hdb : (x == ("__debug__" : Str)) = false := by decide) (he : starEach (e :: es) X.env = (false, eval e X.env) :: starEach es X.env := by rfl) (hpl : (backTo pos (starEach es X.env)).any (·.1) = false := by rfl) :
    PE X (.Call (.Name x p) (e :: es) [] pos) (tCall sp dvs E t) := by
  intro pins s σ H Q I h
  refine wpAny_Call_Name_kw (ld_glob I hg hm ?_ hdb)
  refine PySem.W.callWith_K (h₀ := X.base) I.ok.mod.kin hk (thn (ha pos pins s σ H _ I h) fun us s1 ⟨vs, H1, I1, r, q⟩ => ⟨I1.kIn, ?_⟩) he hpl
  exact run_fn F hr hb hd hx I1 r q
theorem pe_call0 (F : FnOk X.prog X.w X.K X.mg X.base CX k f fd ps sp) (hr : Room k X.A) (hg : Gl X x) (hm : X.mg x = some (.ref f)) (hk : PySem.W.keepIn X.K (.ref f) = true) (hb : Binds X.K fd ps ds) (hd : Vals dvs ds) (hx : Passes CX X E)
    (hdb : (x == ("__debug__" : Str)) = false := by decide) : PE X (.Call (.Name x p) [] [] pos) (tCall sp dvs E tNil) := by
  intro pins s σ H Q I h
  refine wpAny_Call_Name_kw (ld_glob I hg hm ?_ hdb)
  exact PySem.W.callWith_K0 I.kIn hk (run_fn (us := []) F hr hb hd hx I .nil h)

/-- o.m(e, ..) -/
theorem pe_meth {pl : Sem Bool} (he : PE X o ta) (c : Cls X.K C) (hm : Meth X.K C m f) (F : FnOk X.prog X.w X.K X.mg X.base CX k f fd ps sp) (hr : Room k X.A) (hb : Binds X.K fd ps ds) (hd : Vals dvs ds) (hx : Passes CX X E) (ha : PA X (e :: es) t)
    (hst : starEach (e :: es) X.env = (false, eval e X.env) :: starEach es X.env := by rfl) (hpl : (backTo pos (starEach es X.env)).any (·.1) = false := by rfl)
    (ht : eval (.Call (.Attribute o m apos) (e :: es) [] pos) X.env = (do
      let ov ← eval o X.env
      standAt apos.atName
      let (f, first) ← holding [ov] (getMethod ov m pl)
      callWith pos f first (backTo pos (starEach (e :: es) X.env)) (backToKw pos (keywordEach [] X.env))) := by rfl) :
    PE X (.Call (.Attribute o m apos) (e :: es) [] pos) (tMeth C m sp dvs E ta t) := by
  intro pins s σ H Q I h
  refine PySem.W.methodCall_KW (pl := pl) (thn (he pins s σ H _ I h) fun u s1 ⟨x, H1, I1, rx, a, dx, fs, ex, ea, l, q⟩ => ?_) ht
  subst ex
  obtain rfl : u = Value.ref a := rx
  refine getmeth_ok I1 ea c hm l ?_
  refine PySem.W.callWith_K (first := [.ref a]) (h₀ := X.base) I.ok.mod.kin hm.kp (thn (ha pos pins s1 σ H1 _ I1 q) fun us s2 ⟨vs, H2, I2, r, q2⟩ => ⟨I2.kIn, ?_⟩) hst hpl
  exact run_fn (us := .ref a :: us) (vs := .ref a :: vs) F hr hb hd hx I2 (.cons rfl r) q2
/-- o.m() -/
theorem pe_meth0 {pl : Sem Bool} (he : PE X o ta) (c : Cls X.K C) (hm : Meth X.K C m f) (F : FnOk X.prog X.w X.K X.mg X.base CX k f fd ps sp) (hr : Room k X.A) (hb : Binds X.K fd ps ds) (hd : Vals dvs ds) (hx : Passes CX X E)
    (ht : eval (.Call (.Attribute o m apos) [] [] pos) X.env = (do
      let ov ← eval o X.env
      standAt apos.atName
      let (f, first) ← holding [ov] (getMethod ov m pl)
      callWith pos f first (backTo pos (starEach [] X.env)) (backToKw pos (keywordEach [] X.env))) := by rfl) :
    PE X (.Call (.Attribute o m apos) [] [] pos) (tMeth C m sp dvs E ta tNil) := by
  intro pins s σ H Q I h
  refine PySem.W.methodCall_KW (pl := pl) (thn (he pins s σ H _ I h) fun u s1 ⟨x, H1, I1, rx, a, dx, fs, ex, ea, l, q⟩ => ?_) ht
  subst ex
  obtain rfl : u = Value.ref a := rx
  refine getmeth_ok I1 ea c hm l ?_
  exact PySem.W.callWith_K0 (first := [.ref a]) I1.kIn hm.kp (run_fn (us := [.ref a]) (vs := [.ref a]) F hr hb hd hx I1 (.cons rfl .nil) q)

/-- what a class must have to be made -/
structure Mk (K : PySem.W.Frag) (C f : Addr) : Prop where
  makes : PySem.W.makesIn K C = true
  init : PySem.W.findIn K (.ref C) "__init__" = some (some (.ref f))
  fn : PySem.W.isFn K (.ref f) = true
  kp : PySem.W.keepIn K (.ref C) = true

theorem run_make {pins : List (Addr × Obj)} {σ : St} {H : Hp} {s : Shared} {Q : VK} {us : List Value} {vs : List V} (M : Mk X.K C f) (F : FnOk X.prog X.w X.K X.mg X.base CX k f fd ps sp) (hr : Room (k + 1) X.A) (hb : Binds X.K fd ps ds) (hd : Vals dvs ds)
    (hx : Passes CX X E) (I : Inv X pins σ H s) (r : Vals vs us)
    (h : ∀ x dx, H x = none → H dx = none → dx ≠ x → sp (.ref x :: (vs ++ dvs)) (upd (upd H dx (.own x)) x (.ins C dx [])) (fun v H2 => v = .non ∧ Q (.ref x) H2) E) :
    wpAny (model X.prog X.w) X.A (call (.ref C) us) (EP X pins σ Q) X.xe s := by
  have hq := h (s.heap.objs.size + 1) s.heap.objs.size (I.hok.fresh (Nat.le_succ _)) (I.hok.fresh (Nat.le_refl _)) (Nat.ne_of_lt (Nat.lt_succ_self _))
  have I2 := Inv.made (C := C) I
  have r2 : Vals (V.ref (s.heap.objs.size + 1) :: (vs ++ dvs)) (Value.ref (s.heap.objs.size + 1) :: (us ++ ds)) := .cons rfl (r.append hd)
  have hl : (Value.ref (s.heap.objs.size + 1) :: us ++ ds).length = ps.length := by
    have e := r2.length
    rw [F.len _ _ _ _ hq] at e
    exact e.symm
  refine wpAny_call (make_map (f := f) I.kIn M.makes M.init (beq_iff_eq.mp M.fn) (codeAny_mono (F.run _ X.stack _ _ ⟨Value.ref (s.heap.objs.size + 1) :: us, []⟩ (Value.ref (s.heap.objs.size + 1) :: (us ++ ds)) _ _ E (hr.make C us [])
    (I2.env0.make C us []) (hb _ (Value.ref (s.heap.objs.size + 1) :: us) I2.kIn hl) r2 hq) fun r s' hq' => ?_))
  cases r with
  | error e => exact hx pins σ _ _ e s' I2 hq'
  | ok fl =>
    cases fl with
    | ret u =>
      obtain ⟨v, H', I3, rv, ev, q3⟩ := I2.after hq'
      subst ev
      exact ⟨rv, ⟨V.ref (s.heap.objs.size + 1), H', I3, rfl, q3⟩⟩
    | next => exact False.elim hq'
    | brk => exact False.elim hq'
    | cont => exact False.elim hq'
theorem pe_make (M : Mk X.K C f) (F : FnOk X.prog X.w X.K X.mg X.base CX k f fd ps sp) (hr : Room (k + 1) X.A) (hg : Gl X x) (hm : X.mg x = some (.ref C)) (hb : Binds X.K fd ps ds) (hd : Vals dvs ds) (hx : Passes CX X E)
    (ha : PA X (e :: es) t) (hdb : (x == ("__debug__" : Str)) = false := by decide) (he : starEach (e :: es) X.env = (false, eval e X.env) :: starEach es X.env := by rfl) (hpl : (backTo pos (starEach es X.env)).any (·.1) = false := by rfl) :
    PE X (.Call (.Name x p) (e :: es) [] pos) (tMake C sp dvs E t) := by
  intro pins s σ H Q I h
  refine wpAny_Call_Name_kw (ld_glob I hg hm ?_ hdb)
  refine PySem.W.callWith_K (h₀ := X.base) I.ok.mod.kin M.kp (thn (ha pos pins s σ H _ I h) fun us s1 ⟨vs, H1, I1, r, q⟩ => ⟨I1.kIn, ?_⟩) he hpl
  exact run_make M F hr hb hd hx I1 r q
theorem pe_make0 (M : Mk X.K C f) (F : FnOk X.prog X.w X.K X.mg X.base CX k f fd ps sp) (hr : Room (k + 1) X.A) (hg : Gl X x) (hm : X.mg x = some (.ref C)) (hb : Binds X.K fd ps ds) (hd : Vals dvs ds) (hx : Passes CX X E)
    (hdb : (x == ("__debug__" : Str)) = false := by decide) : PE X (.Call (.Name x p) [] [] pos) (tMake C sp dvs E tNil) := by
  intro pins s σ H Q I h
  refine wpAny_Call_Name_kw (ld_glob I hg hm ?_ hdb)
  exact PySem.W.callWith_K0 I.kIn M.kp (run_make (us := []) M F hr hb hd hx I .nil h)
end

/-! ### keywords -/
/-- the values of the keywords, from the left -/
def PK (X : Cx) (kws : List Keyword) (t : TA) : Prop :=
  ∀ (pos : Pos) (pins : List (Addr × Obj)) (s : Shared) (σ : St) (H : Hp) (Q : List V → Hp → Prop), Inv X pins σ H s → t σ H Q → wpAny (model X.prog X.w) X.A (evalAll ((backToKw pos (keywordEach kws X.env)).map (·.2))) (AP X pins σ Q) X.xe s
section
variable {X : Cx} {CX : CXT} {k : Nat} {f C : Addr} {fd : FuncData} {ps ks : List Str} {sp : Sp} {E : XK} {x m : Str} {p pos apos kpos : Pos} {e o : Expr} {es : List Expr} {kws : List Keyword} {te ta : TE} {t tk : TA} {nm : Option Str}
theorem pk_nil : PK X [] tNil := fun _ _ _ _ H Q I h => wpAny_evalAll_nil ⟨[], H, I, .nil, h⟩
theorem pk_cons (ha : PE X e te) (hr : PK X kws t) : PK X (⟨nm, e, kpos⟩ :: kws) (tCons te t) := by
  intro pos pins s σ H Q I h
  show wpAny _ _ (evalAll ((do let v ← eval e X.env; standAt pos; pure v) :: (backToKw pos (keywordEach kws X.env)).map (·.2))) _ _ s
  refine wpAny_evalAll_cons (wpAny_bind (thn (ha pins s σ H _ I h) fun u s1 ⟨x, H1, I1, r1, q1⟩ => wpAny_bind (wpAny_standAt (wpAny_pure ?_))))
  exact thn (hr pos pins s1 σ H1 _ I1 q1) fun us s2 ⟨xs, H2, I2, r2, q2⟩ => ⟨x :: xs, H2, I2, .cons r1 r2, q2⟩

/-- how a call with keywords binds: g puts the positional values us and the keywords' values ws (names ks) in the parameters' order, defaults among them -/
structure KBinds (K : PySem.W.Frag) (fd : FuncData) (ps ks : List Str) (g : List Value → List Value → List Value) (gV : List V → List V → List V) : Prop where
  to : ∀ (s : Shared) (us ws : List Value), K.In s.heap → (g us ws).length = ps.length → BindsTo s fd ⟨us, ks.zip ws⟩ (ps.zip (g us ws))
  rel : ∀ {vs : List V} {us : List Value} {zs : List V} {ws : List Value}, Vals vs us → Vals zs ws → Vals (gV vs zs) (g us ws)
def tCallK (sp : Sp) (gV : List V → List V → List V) (E : XK) (t tk : TA) : TE := fun σ H Q => t σ H fun vs H1 => tk σ H1 fun zs H2 => sp (gV vs zs) H2 Q E
variable {g : List Value → List Value → List Value} {gV : List V → List V → List V}
theorem run_fnk {pins : List (Addr × Obj)} {σ : St} {H : Hp} {s : Shared} {Q : VK} {us ws : List Value} {vs zs : List V} (F : FnOk X.prog X.w X.K X.mg X.base CX k f fd ps sp) (hr : Room k X.A) (hb : KBinds X.K fd ps ks g gV) (hx : Passes CX X E)
    (I : Inv X pins σ H s) (r : Vals vs us) (rz : Vals zs ws) (h : sp (gV vs zs) H Q E) : wpAny (model X.prog X.w) X.A (call (.ref f) us (ks.zip ws)) (EP X pins σ Q) X.xe s := by
  have r2 := hb.rel r rz
  have hl : (g us ws).length = ps.length := by rw [← r2.length]; exact F.len _ _ _ _ h
  refine wpAny_call (codeAny_mono (F.run X.A X.stack s H ⟨us, ks.zip ws⟩ (g us ws) (gV vs zs) Q E hr I.env0 (hb.to s us ws I.kIn hl) r2 h) fun r s' hq => ?_)
  cases r with
  | error e => exact hx pins σ H s e s' I hq
  | ok fl =>
    cases fl with
    | ret u => exact I.after hq
    | next => exact False.elim hq
    | brk => exact False.elim hq
    | cont => exact False.elim hq
/-- f(e, .., k = v, ..) -/
theorem pe_callK (F : FnOk X.prog X.w X.K X.mg X.base CX k f fd ps sp) (hr : Room k X.A) (hg : Gl X x) (hm : X.mg x = some (.ref f)) (hk : PySem.W.keepIn X.K (.ref f) = true) (hb : KBinds X.K fd ps ks g gV) (hx : Passes CX X E)
    (ha : PA X (e :: es) t) (hkw : PK X kws tk) (hall : (backToKw pos (keywordEach kws X.env)).all (·.1.isSome) = true := by rfl) (hks : (backToKw pos (keywordEach kws X.env)).filterMap (·.1) = ks := by rfl)
    (hdb : (x == ("__debug__" : Str)) = false := by decide) (he : starEach (e :: es) X.env = (false, eval e X.env) :: starEach es X.env := by rfl)
    (hpl : ((backTo pos (starEach (e :: es) X.env)).any (·.1) || (backToKw pos (keywordEach kws X.env)).any (·.1.isNone)) = false := by rfl) :
    PE X (.Call (.Name x p) (e :: es) kws pos) (tCallK sp gV E t tk) := by
  intro pins s σ H Q I h
  refine wpAny_Call_Name_kw (ld_glob I hg hm ?_ hdb)
  refine PySem.W.callWith_KW (h₀ := X.base) I.ok.mod.kin hk hall (thn (ha pos pins s σ H _ I h) fun us s1 ⟨vs, H1, I1, r, q⟩ => ?_) hpl he
  refine thn (hkw pos pins s1 σ H1 _ I1 q) fun ws s2 ⟨zs, H2, I2, rz, q2⟩ => ⟨I2.kIn, ?_⟩
  rw [hks]
  exact run_fnk F hr hb hx I2 r rz q2
end

/-! ### a def's body keeps its promise -/
/-- names: the parameters first -/
structure FnScope (N P : List Str) (sc : Scope) : Prop where
  kind : sc.kind = .function
  co : sc.isCoroutine = false
  gen : sc.isGenerator = false
  nd : N.Nodup
  pre : N.take P.length = P
  par : ∀ x ∈ P, sc.names.lookup x = some .local ∨ sc.names.lookup x = some .cell
  nofree : ∀ y ∈ sc.names, y.2 ≠ .free

theorem bindL_out {kindOf : Str → Option NameKind} {x : Str} : ∀ {binds : List (Str × Value)} {m : Str → Option Value}, (∀ v, (x, v) ∉ binds) → bindL kindOf binds m x = m x
  | [], _, _ => rfl
  | (n, v) :: r, m, h => by
    unfold bindL
    rw [bindL_out fun w hw => h w (List.mem_cons_of_mem _ hw)]
    split
    · have : x ≠ n := by rintro rfl; exact h v List.mem_cons_self
      simp [this]
    · rfl
theorem bindC_out {kindOf : Str → Option NameKind} {x : Str} : ∀ {binds : List (Str × Value)} {m : Str → Option Value}, (∀ v, (x, v) ∉ binds) → bindC kindOf binds m x = m x
  | [], _, _ => rfl
  | (n, v) :: r, m, h => by
    unfold bindC
    rw [bindC_out fun w hw => h w (List.mem_cons_of_mem _ hw)]
    split
    · rfl
    · have : x ≠ n := by rintro rfl; exact h v List.mem_cons_self
      simp [this]
theorem bindL_get {kindOf : Str → Option NameKind} {x : Str} {v : Value} : ∀ {P : List Str} {vs : List Value} {i : Nat} {m : Str → Option Value}, P.Nodup → P[i]? = some x → vs[i]? = some v → kindOf x = some .local →
    bindL kindOf (P.zip vs) m x = some v
  | [], _, _, _, _, h, _, _ => by simp at h
  | _ :: _, [], _, _, _, _, h, _ => by simp at h
  | p :: P, w :: vs, 0, m, nd, h1, h2, hk => by
    simp at h1 h2; subst h1; subst h2
    show bindL kindOf ((p, w) :: P.zip vs) m p = _
    unfold bindL
    rw [bindL_out fun v hv => (List.nodup_cons.mp nd).1 (List.of_mem_zip hv).1, if_pos hk]
    simp
  | p :: P, w :: vs, i + 1, m, nd, h1, h2, hk => by
    show bindL kindOf ((p, w) :: P.zip vs) m x = _
    unfold bindL
    exact bindL_get (i := i) (List.nodup_cons.mp nd).2 (by simpa using h1) (by simpa using h2) hk
theorem bindC_get {kindOf : Str → Option NameKind} {x : Str} {v : Value} : ∀ {P : List Str} {vs : List Value} {i : Nat} {m : Str → Option Value}, P.Nodup → P[i]? = some x → vs[i]? = some v → kindOf x ≠ some .local →
    bindC kindOf (P.zip vs) m x = some v
  | [], _, _, _, _, h, _, _ => by simp at h
  | _ :: _, [], _, _, _, _, h, _ => by simp at h
  | p :: P, w :: vs, 0, m, nd, h1, h2, hk => by
    simp at h1 h2; subst h1; subst h2
    show bindC kindOf ((p, w) :: P.zip vs) m p = _
    unfold bindC
    rw [bindC_out fun v hv => (List.nodup_cons.mp nd).1 (List.of_mem_zip hv).1, if_neg hk]
    simp
  | p :: P, w :: vs, i + 1, m, nd, h1, h2, hk => by
    show bindC kindOf ((p, w) :: P.zip vs) m x = _
    unfold bindC
    exact bindC_get (i := i) (List.nodup_cons.mp nd).2 (by simpa using h1) (by simpa using h2) hk

/-- the names' values at the entry -/
def start (N : List Str) (vs : List V) : St := vs.map some ++ List.replicate (N.length - vs.length) none

/-- the context of a def's body, at its entry; an exception leaves the frame, then lies as CX says -/
def cxOf (CX : CXT) (P : Program) (w : World) (K : PySem.W.Frag) (mg : Str → Option Value) (base : Heap) (N : List Str) (qual : Str) (scope : Scope) (f : Addr) (cd : Value) (A : Around) (outer : List Env) (s : Shared) (H : Hp) (E : XK) : Cx where
  prog := P
  w := w
  K := K
  mg := mg
  base := base
  A := A.deeper (envOfC qual scope s.heap.objs.size f cd)
  N := N
  s₀ := s
  H₀ := H
  env := envOfC qual scope s.heap.objs.size f cd
  outer := outer
  stack := envOfC qual scope s.heap.objs.size f cd :: outer
  ex := []
  calm := true
  fn := fun _ => true
  pn := []
  xe := fun e s' => wpAny (model P w) (A.deeper (envOfC qual scope s.heap.objs.size f cd)) (leaving (envOfC qual scope s.heap.objs.size f cd) e) (fun _ s'' => CX outer H s E e s'') (fun e' s'' => CX outer H s E e' s'') s'

theorem cell_has {sc : Scope} {n : Nat} {x : Str} (h : sc.names.lookup x = some .cell) : ∃ c, (cellsFrom n sc.names []).lookup x = some c := by
  have q := PySem.W.cellsFrom_some sc.names n [] (.inl h)
  exact Option.isSome_iff_exists.mp q

theorem inv_start {CX : CXT} {P : Program} {w : World} {K : PySem.W.Frag} {mg : Str → Option Value} {base : Heap} {N ps : List Str} {qual : Str} {scope : Scope} {f : Addr} {cd : Value} {A : Around} {outer : List Env} {s s1 : Shared} {H : Hp} {E : XK} {us : List Value} {vs : List V}
    (S : FnScope N ps scope) (hd : A.handled = none) (e0 : Env0 P w K mg base A outer s H) (hl : vs.length = ps.length) (r : Vals vs us)
    (x : InCallC s s.heap.objs.size (bindL (envOfC qual scope s.heap.objs.size f cd).kindOf (ps.zip us) fun _ => none) (cellsFrom (s.heap.objs.size + 1) scope.names []) (bindC (envOfC qual scope s.heap.objs.size f cd).kindOf (ps.zip us) fun _ => none) s1) :
    Inv (cxOf CX P w K mg base N qual scope f cd A outer s H E) [] (start N vs) H s1 := by
  have hpl : ps.length ≤ N.length := by have := congrArg List.length S.pre; rw [List.length_take] at this; omega
  obtain ⟨h1, tk, rfl, hk⟩ := x.done
  have noA : ∀ b : Addr, b ∉ (cxOf CX P w K mg base N qual scope f cd A outer s H E).ex := fun b z => absurd (show b ∈ ([] : List Addr) from z) (by simp)
  refine ⟨⟨e0.mod, S.kind, rfl, rfl, Nat.le_refl _, fun y z c h1 h2 => ?_, fun y hy => ?_, fun y c _ h => ?_, fun _ => hd, Around.frames_deeper e0.frames, .inr ⟨rfl, rfl⟩, fun b z => absurd z (noA b), e0.bs, e0.bsz, fun b _ _ => noA b, fun b z => absurd z (noA b), e0.funs, e0.frf⟩,
    rfl, e0.bare, Un.kept hk, ⟨_, x.toInCall.ns, fun i y v h1 h2 h3 => ?_⟩, fun y c h => ⟨_, x.cell y c h⟩, e0.hok.fresh (Nat.le_refl _), fun y c h => ?_, fun p hp => absurd (show p ∈ ([] : List (Addr × Obj)) from hp) (by simp), e0.hok.kept hk, ?_⟩
  · exact name_of_addr x.apart (PySem.mem_of_lookup h1) (PySem.mem_of_lookup h2)
  · have hy : scope.names.lookup y = some .cell ∨ scope.names.lookup y = some .free := hy
    rcases hy with hy | hy
    · exact cell_has hy
    · exact absurd rfl (S.nofree _ (PySem.mem_of_lookup hy))
  · exact Nat.le_of_lt (x.above y c (PySem.mem_of_lookup h))
  · have hi : i < vs.length := by
      unfold start at h2
      by_cases hi : i < vs.length
      · exact hi
      · rw [List.getElem?_append_right (by simpa using hi)] at h2
        rw [List.getElem?_replicate] at h2
        split at h2 <;> cases h2
    have ha : vs[i]? = some v := by
      unfold start at h2
      rw [List.getElem?_append_left (by simpa using hi), List.getElem?_map] at h2
      cases e : vs[i]? with
      | none => rw [e] at h2; cases h2
      | some a => rw [e] at h2; cases h2; rfl
    obtain ⟨u, hu, rv⟩ := r.get ha
    have hp : ps[i]? = some y := by
      rw [← S.pre, List.getElem?_take_of_lt (by omega)]; exact h1
    have ndP : ps.Nodup := by rw [← S.pre]; exact S.nd.sublist (List.take_sublist _ _)
    refine ⟨u, rv, ?_⟩
    rcases S.par y (List.mem_of_getElem? hp) with k | k
    · exact .inl ⟨k, bindL_get ndP hp hu k⟩
    · obtain ⟨c, e⟩ := cell_has (n := s.heap.objs.size + 1) k
      refine .inr ⟨.inl k, c, e, ?_⟩
      have q := x.cell y c e
      rw [bindC_get ndP hp hu (by show scope.names.lookup y ≠ _; rw [k]; decide)] at q
      exact q
  · exact e0.hok.fresh (Nat.le_of_lt (x.above y c (PySem.mem_of_lookup h)))
  · unfold start
    show _ = N.length
    rw [List.length_append, List.length_map, List.length_replicate]
    omega

/-- THE RULE: a def (or a method) of the text, by its body. The body's reading t is chosen for each entry; it is run at the parameters' values -/
theorem fn_of {CX : CXT} {P : Program} {w : World} {K : PySem.W.Frag} {mg : Str → Option Value} {base : Heap} {k : Nat} {f : Addr} {name qual : Str} {params : Arguments} {body : List Stmt} {scope : Scope} {dV kV doc pm cdv ct oc : Value} {an od : Option Addr}
    {osl : Array (Option Value)} {N ps : List Str} {sp : Sp} (lk : K.lookup f = some ⟨oc, od, .func (PySem.W.fnOf name qual params body scope dV kV doc pm an cdv ct), osl⟩) (hcd : PySem.W.codeIn K cdv qual = true) (S : FnScope N ps scope)
    (len : ∀ vs H Q E, sp vs H Q E → vs.length = ps.length)
    (hbody : ∀ (A : Around) (outer : List Env) (s : Shared) (H : Hp) (vs : List V) (Q : VK) (E : XK), Room k (A.deeper (envOfC qual scope s.heap.objs.size f cdv)) → sp vs H Q E →
      ∃ t, PSs (cxOf CX P w K mg base N qual scope f cdv A outer s H E) body t ∧ t { nx := fun _ H' => Q .non H', rt := Q } (start N vs) H) :
    FnOk P w K mg base CX (k + 1) f (PySem.W.fnOf name qual params body scope dV kV doc pm an cdv ct) ps sp := by
  refine ⟨len, fun A outer s H args us vs Q E hr e0 hb r hsp => ?_⟩
  have hl := len _ _ _ _ hsp
  have KX : K.In s.heap := e0.mod.kin.keeps fun b o e => (e0.bs b o e).1
  have lim : s.heap.NoLimit := e0.mod.nolimit.keeps fun b o e => (e0.bs b o e).1
  have hkind : ∀ y ∈ ps.zip us, scope.names.lookup y.1 = some .local ∨ (scope.names.lookup y.1 = some .cell ∧ ((cellsFrom (s.heap.objs.size + 1) scope.names []).lookup y.1).isSome = true) := fun ⟨n, v⟩ hy => by
    rcases S.par n (List.of_mem_zip hy).1 with q | q
    · exact .inl q
    · exact .inr ⟨q, PySem.W.cellsFrom_some _ _ _ (.inl q)⟩
  refine codeAny_call_function hr.depth (KX _ _ lk) rfl S.co S.gen rfl (PySem.W.codeRec_of KX hcd) (hb _ _ _ _ ?_)
  refine wpAny_newFunctionEnv_cells S.kind hkind fun env he s1 x => ?_
  subst he
  refine ⟨lim.keeps x.toInCall.keep, codeAny_func ?_⟩
  obtain ⟨t, ht, hq⟩ := hbody A outer s H vs Q E (hr.deeper _) hsp
  have I : Inv (cxOf CX P w K mg base N qual scope f cdv A outer s H E) [] (start N vs) H s1 := inv_start S hr.hd e0 hl r x
  refine wpAny_mono (ht [] s1 (start N vs) H _ I hq) (fun fl s' hs => ?_) fun e s' hs => hs
  have fin : ∀ {σ' : St} {H' : Hp} {v : V} {u : Value}, Inv (cxOf CX P w K mg base N qual scope f cdv A outer s H E) [] σ' H' s' → RelV v u → Q v H' → CE outer P w H s Q u s' :=
    fun {σ' H' v u} J rv q => ⟨v, H', J.os, J.bare, J.base, J.hok, rv, q⟩
  cases fl with
  | ret u =>
    obtain ⟨v, σ', H', J, rv, q⟩ := hs
    exact fin J rv q
  | next =>
    obtain ⟨σ', H', J, q⟩ := hs
    exact fin (v := V.non) (u := Value.none) J rfl q
  | brk =>
    obtain ⟨_, _, _, q⟩ := hs
    exact False.elim q
  | cont =>
    obtain ⟨_, _, _, q⟩ := hs
    exact False.elim q
end L2

namespace L2
open PySem PySem.Spec PyProof.Rows
section
variable {X : Cx} {x : Str} {p pos : Pos} {e : Expr} {es : List Expr} {t : TA} {id T : String} {r : List V → Hp → VK → Prop}

def tCB (r : List V → Hp → VK → Prop) (t : TA) : TE := fun σ H Q => t σ H fun vs H1 => r vs H1 Q
/-- f(e, ..), f a built-in function -/
theorem pe_callB (hc : CallR X (.builtin id) r) (hg : Gl X x) (hm : X.mg x = none) (hv : bootBuiltins x = some (.builtin id)) (ha : PA X (e :: es) t) (hn : x ≠ "__name__" := by decide) (hdb : (x == ("__debug__" : Str)) = false := by decide)
    (he : starEach (e :: es) X.env = (false, eval e X.env) :: starEach es X.env := by rfl) (hpl : (backTo pos (starEach es X.env)).any (·.1) = false := by rfl) : PE X (.Call (.Name x p) (e :: es) [] pos) (tCB r t) := by
  intro pins s σ H Q I h
  refine wpAny_Call_Name_kw (ld_blt I hg hm hv ?_ hn hdb)
  exact PyProof.Rows.callWith_builtin1 (thn (ha pos pins s σ H _ I h) fun us s1 ⟨vs, H1, I1, r1, q1⟩ => hc pins s1 σ H1 vs us Q I1 r1 q1) he hpl
/-- T(e, ..), T a built-in type -/
theorem pe_callTy (hc : CallR X (.type T) r) (hg : Gl X x) (hm : X.mg x = none) (hv : bootBuiltins x = some (.type T)) (ha : PA X (e :: es) t) (hn : x ≠ "__name__" := by decide) (hdb : (x == ("__debug__" : Str)) = false := by decide)
    (he : starEach (e :: es) X.env = (false, eval e X.env) :: starEach es X.env := by rfl) (hpl : (backTo pos (starEach es X.env)).any (·.1) = false := by rfl) : PE X (.Call (.Name x p) (e :: es) [] pos) (tCB r t) := by
  intro pins s σ H Q I h
  refine wpAny_Call_Name_kw (ld_blt I hg hm hv ?_ hn hdb)
  exact PyProof.Rows.callWith_type1 (thn (ha pos pins s σ H _ I h) fun us s1 ⟨vs, H1, I1, r1, q1⟩ => hc pins s1 σ H1 vs us Q I1 r1 q1) he hpl
/-- T() -/
theorem pe_callTy0 (hc : CallR X (.type T) r) (hg : Gl X x) (hm : X.mg x = none) (hv : bootBuiltins x = some (.type T)) (hn : x ≠ "__name__" := by decide) (hdb : (x == ("__debug__" : Str)) = false := by decide) :
    PE X (.Call (.Name x p) [] [] pos) (tCB r tNil) := by
  intro pins s σ H Q I h
  refine wpAny_Call_Name_kw (ld_blt I hg hm hv ?_ hn hdb)
  exact PyProof.Rows.callWith_type0 (hc pins s σ H [] [] Q I .nil h)
end
end L2

namespace L2
open PySem PySem.Spec PyProof.Rows

/-! ### lists of pairs as tables -/
section
variable {κ : Type} [DecidableEq κ]
def valV (kvs : List (κ × V)) (k : κ) : Option V := (kvs.find? fun kv => decide (kv.1 = k)).map (·.2)
/-- in its place, or at the end -/
def putK (kvs : List (κ × V)) (k : κ) (v : V) : List (κ × V) :=
  if (kvs.any fun kv => decide (kv.1 = k)) = true then kvs.map (fun kv => if kv.1 = k then (kv.1, v) else kv) else kvs ++ [(k, v)]
def dropK (kvs : List (κ × V)) (k : κ) : List (κ × V) := kvs.filter fun kv => decide (kv.1 ≠ k)

theorem valV_nil {k : κ} : valV ([] : List (κ × V)) k = none := rfl
theorem valV_pos {p : κ × V} {r : List (κ × V)} {k : κ} (e : p.1 = k) : valV (p :: r) k = some p.2 := by simp [valV, List.find?_cons, e]
theorem valV_neg {p : κ × V} {r : List (κ × V)} {k : κ} (e : ¬ p.1 = k) : valV (p :: r) k = valV r k := by simp [valV, List.find?_cons, e]
theorem valV_any (k : κ) : ∀ kvs : List (κ × V), (kvs.any fun kv => decide (kv.1 = k)) = (valV kvs k).isSome
  | [] => rfl
  | p :: r => by
    rw [List.any_cons]
    by_cases e : p.1 = k
    · simp only [valV_pos e, decide_eq_true e, Bool.true_or, Option.isSome_some]
    · rw [valV_neg e, decide_eq_false e, Bool.false_or]; exact valV_any k r
theorem valV_map (k j : κ) (y : V) : ∀ kvs : List (κ × V), valV (kvs.map fun kv => if kv.1 = k then (kv.1, y) else kv) j = (valV kvs j).map fun x => if j = k then y else x
  | [] => rfl
  | p :: r => by
    have ih := valV_map k j y r
    rw [List.map_cons]
    by_cases h : p.1 = k
    · rw [if_pos h]
      by_cases e : p.1 = j
      · rw [valV_pos (p := (p.1, y)) e, valV_pos e, Option.map_some, if_pos (e.symm.trans h)]
      · rw [valV_neg (p := (p.1, y)) e, valV_neg e, ih]
    · rw [if_neg h]
      by_cases e : p.1 = j
      · rw [valV_pos (p := p) e, valV_pos e, Option.map_some, if_neg (fun z => h (e.trans z))]
      · rw [valV_neg (p := p) e, valV_neg e, ih]
theorem valV_snoc (k j : κ) (y : V) : ∀ kvs : List (κ × V), valV kvs k = none → valV (kvs ++ [(k, y)]) j = if j = k then some y else valV kvs j
  | [], _ => by
    by_cases e : k = j
    · rw [if_pos e.symm]; exact valV_pos (p := (k, y)) e
    · rw [if_neg (fun z => e z.symm)]; exact valV_neg (p := (k, y)) e
  | p :: r, hn => by
    rw [List.cons_append]
    have hk : ¬ p.1 = k := fun z => by rw [valV_pos z] at hn; cases hn
    rw [valV_neg hk] at hn
    have ih := valV_snoc k j y r hn
    by_cases e : p.1 = j
    · rw [valV_pos e, valV_pos e, if_neg (fun z => hk (e.trans z))]
    · rw [valV_neg e, valV_neg e, ih]
theorem valV_put (kvs : List (κ × V)) (k j : κ) (y : V) : valV (putK kvs k y) j = if j = k then some y else valV kvs j := by
  unfold putK
  by_cases a : (kvs.any fun kv => decide (kv.1 = k)) = true
  · rw [if_pos a, valV_map]
    rw [valV_any] at a
    by_cases e : j = k
    · obtain ⟨x, hx⟩ := Option.isSome_iff_exists.mp a
      rw [if_pos e, e, hx, Option.map_some, if_pos rfl]
    · rw [if_neg e]
      cases valV kvs j with
      | none => rfl
      | some x => rw [Option.map_some, if_neg e]
  · rw [if_neg a]
    refine valV_snoc k j y kvs ?_
    rw [valV_any] at a
    cases q : valV kvs k with
    | none => rfl
    | some x => rw [q] at a; exact (a rfl).elim
theorem length_putK (kvs : List (κ × V)) (k : κ) (v : V) : (putK kvs k v).length ≤ kvs.length + 1 := by
  unfold putK
  split
  · rw [List.length_map]; omega
  · rw [List.length_append, List.length_cons, List.length_nil]; omega
theorem putK_new {kvs : List (κ × V)} {k : κ} (v : V) (h : valV kvs k = none) : putK kvs k v = kvs ++ [(k, v)] := by
  unfold putK
  rw [valV_any, h]
  exact if_neg (by decide)

theorem RelO.isSome_eq {o : Option V} {u : Option Value} (r : RelO o u) : o.isSome = u.isSome := by
  cases o with
  | none => cases u with
    | none => rfl
    | some _ => exact (show False from r).elim
  | some _ => cases u with
    | none => exact (show False from r).elim
    | some _ => rfl
theorem RelO.getD {o : Option V} {u : Option Value} {d : V} {d' : Value} (r : RelO o u) (rd : RelV d d') : RelV (o.getD d) (u.getD d') := by
  cases o with
  | none => cases u with
    | none => exact rd
    | some _ => exact (show False from r).elim
  | some _ => cases u with
    | none => exact (show False from r).elim
    | some _ => exact r

/-- raw tables of the same keys -/
theorem KV.val {kvs : List (κ × V)} {vs : List (κ × Value)} (r : KV kvs vs) (k : κ) : RelO (valV kvs k) (valueAt vs k) := by
  unfold KV at r
  induction r with
  | nil => exact True.intro
  | @cons p q ps qs h t ih =>
    obtain ⟨h1, h2⟩ := h
    by_cases e : p.1 = k
    · have e' : q.1 = k := h1.symm.trans e
      have b : valueAt (q :: qs) k = some q.2 := by simp [valueAt, List.find?_cons, e']
      rw [valV_pos e, b]; exact h2
    · have e' : ¬ q.1 = k := fun z => e (h1.trans z)
      have b : valueAt (q :: qs) k = valueAt qs k := by simp [valueAt, List.find?_cons, e']
      rw [valV_neg e, b]; exact ih
theorem KV.any {kvs : List (κ × V)} {vs : List (κ × Value)} (r : KV kvs vs) (k : κ) : (kvs.any fun kv => decide (kv.1 = k)) = vs.any fun kv => decide (kv.1 = k) := by
  unfold KV at r
  induction r with
  | nil => rfl
  | cons h t ih => rw [List.any_cons, List.any_cons, ih, h.1]
theorem KV.repl {kvs : List (κ × V)} {vs : List (κ × Value)} (r : KV kvs vs) (k : κ) {y : V} {u : Value} (ry : RelV y u) :
    KV (kvs.map fun kv => if kv.1 = k then (kv.1, y) else kv) (vs.map fun kv => if kv.1 = k then (kv.1, u) else kv) := by
  unfold KV at r ⊢
  induction r with
  | nil => exact .nil
  | @cons p q ps qs h t ih =>
    rw [List.map_cons, List.map_cons]
    refine .cons ?_ ih
    obtain ⟨h1, h2⟩ := h
    by_cases e : p.1 = k
    · rw [if_pos e, if_pos (h1.symm.trans e)]; exact ⟨h1, ry⟩
    · rw [if_neg e, if_neg (fun z => e (h1.trans z))]; exact ⟨h1, h2⟩
theorem KV.put {kvs : List (κ × V)} {vs : List (κ × Value)} (r : KV kvs vs) (k : κ) {y : V} {u : Value} (ry : RelV y u) : KV (putK kvs k y) (stored vs k u) := by
  unfold putK stored
  rw [r.any k]
  by_cases e : (vs.any fun kv => decide (kv.1 = k)) = true
  · rw [if_pos e, if_pos e]; exact r.repl k ry
  · rw [if_neg e, if_neg e]; exact Paired.snoc r ⟨rfl, ry⟩
theorem KV.drop {kvs : List (κ × V)} {vs : List (κ × Value)} (r : KV kvs vs) (k : κ) : KV (dropK kvs k) (without vs k) := by
  unfold KV at r ⊢
  unfold dropK without
  induction r with
  | nil => exact .nil
  | @cons p q ps qs h t ih =>
    obtain ⟨h1, h2⟩ := h
    rw [List.filter_cons, List.filter_cons]
    by_cases e : p.1 = k
    · have a : ¬ decide (p.1 ≠ k) = true := by simp [e]
      have b : ¬ decide (q.1 ≠ k) = true := by simp [h1.symm.trans e]
      rw [if_neg a, if_neg b]; exact ih
    · have e' : ¬ q.1 = k := fun z => e (h1.trans z)
      have a : decide (p.1 ≠ k) = true := by simp [e]
      have b : decide (q.1 ≠ k) = true := by simp [e']
      rw [if_pos a, if_pos b]; exact .cons ⟨h1, h2⟩ ih
theorem KV.keys {kvs : List (κ × V)} {vs : List (κ × Value)} (r : KV kvs vs) : kvs.map (·.1) = vs.map (·.1) := by
  unfold KV at r
  induction r with
  | nil => rfl
  | cons h t ih => rw [List.map_cons, List.map_cons, ih, h.1]
theorem KV.length {kvs : List (κ × V)} {vs : List (κ × Value)} (r : KV kvs vs) : kvs.length = vs.length := Paired.length r
theorem dropK_le (kvs : List (κ × V)) (k : κ) : (dropK kvs k).length ≤ kvs.length := List.length_filter_le _ _
end


/-! ### a tracked dict, its keys ints and texts or tuples of these -/
theorem kV_is {P : Program} {w : World} {k : Key} {u : Value} (r : RelV (kV k) u) : (mixKind P w).is k u = true := by
  cases k with
  | inl i => obtain ⟨t, e⟩ := (show ∃ t, u = Value.int i t from r); subst e; exact mixKind_int P w i t
  | inr x => obtain ⟨t, e⟩ := (show ∃ t, u = Value.str x t from r); subst e; exact mixKind_str P w x t
theorem kV_inj {a b : Key} (e : kV a = kV b) : a = b := by
  cases a with
  | inl i => cases b with
    | inl j => have e' : V.int i = V.int j := e; injection e' with e'; rw [e']
    | inr y => exact nomatch (show V.int i = V.str y from e)
  | inr x => cases b with
    | inl j => exact nomatch (show V.str x = V.int j from e)
    | inr y => have e' : V.str x = V.str y := e; injection e' with e'; rw [e']
theorem kVs_inj : ∀ {a b : List Key}, a.map kV = b.map kV → a = b
  | [], [], _ => rfl
  | [], _ :: _, e => by simp at e
  | _ :: _, [], e => by simp at e
  | x :: xs, y :: ys, e => by
    rw [List.map_cons, List.map_cons] at e
    injection e with e1 e2
    rw [kV_inj e1, kVs_inj e2]
theorem items_are {P : Program} {w : World} : ∀ {ks : List Key} {us : List Value}, Vals (ks.map kV) us → ItemsAre (mixKind P w) ks us
  | [], _, r => by rw [List.map_nil] at r; cases r; exact .nil
  | k :: ks, _, r => by
    rw [List.map_cons] at r
    cases r with
    | cons h t => exact .cons (kV_is h) (items_are t)

/-- raw entries of a dict with tuple keys -/
abbrev KT (H : Hp) : List (List Key × V) → List (List Key × Addr × Value) → Prop := Paired fun p q => p.1 = q.1 ∧ H q.2.1 = some (.tup (p.1.map kV)) ∧ RelV p.2 q.2.2
theorem KT.val {H : Hp} {kvs : List (List Key × V)} {xs : List (List Key × Addr × Value)} (r : KT H kvs xs) (k : List Key) : RelO (valV kvs k) ((atKey xs k).map (·.2)) := by
  induction r with
  | nil => exact True.intro
  | @cons p q ps qs h t ih =>
    obtain ⟨h1, _, h2⟩ := h
    by_cases e : p.1 = k
    · have e' : q.1 = k := h1.symm.trans e
      have b : atKey (q :: qs) k = some q.2 := by simp [atKey, List.find?_cons, e']
      rw [valV_pos e, b]; exact h2
    · have e' : ¬ q.1 = k := fun z => e (h1.trans z)
      have b : atKey (q :: qs) k = atKey qs k := by simp [atKey, List.find?_cons, e']
      rw [valV_neg e, b]; exact ih
theorem KT.repl {H : Hp} {kvs : List (List Key × V)} {xs : List (List Key × Addr × Value)} (r : KT H kvs xs) (k : List Key) {y : V} {u : Value} (ry : RelV y u) :
    KT H (kvs.map fun kv => if kv.1 = k then (kv.1, y) else kv) (xs.map (putAt k u)) := by
  induction r with
  | nil => exact .nil
  | @cons p q ps qs h t ih =>
    rw [List.map_cons, List.map_cons]
    refine .cons ?_ ih
    obtain ⟨h1, h2, h3⟩ := h
    unfold putAt
    by_cases e : p.1 = k
    · rw [if_pos e, if_pos (h1.symm.trans e)]; exact ⟨h1, h2, ry⟩
    · rw [if_neg e, if_neg (fun z => e (h1.trans z))]; exact ⟨h1, h2, h3⟩
theorem KT.put {H : Hp} {kvs : List (List Key × V)} {xs : List (List Key × Addr × Value)} (r : KT H kvs xs) (k : List Key) {b : Addr} {y : V} {u : Value} (hb : H b = some (.tup (k.map kV))) (ry : RelV y u) :
    KT H (putK kvs k y) (storedH xs k b u) := by
  have e : (kvs.any fun kv => decide (kv.1 = k)) = (atKey xs k).isSome := by
    rw [valV_any, (r.val k).isSome_eq, Option.isSome_map]
  unfold putK storedH
  rw [e]
  by_cases q : (atKey xs k).isSome = true
  · rw [if_pos q, if_pos q]; exact r.repl k ry
  · rw [if_neg q, if_neg q]; exact Paired.snoc r ⟨rfl, hb, ry⟩
theorem KT.keeps {H H' : Hp} {kvs : List (List Key × V)} {xs : List (List Key × Addr × Value)} (r : KT H kvs xs) (ht : ∀ b ys, H b = some (.tup ys) → H' b = some (.tup ys)) : KT H' kvs xs :=
  Paired.mapP r fun _ _ z => ⟨z.1, ht _ _ z.2.1, z.2.2⟩

section
variable {P : Program} {w : World} {H : Hp} {h : Heap} {a : Addr}
theorem rd_of {u : HO} (ok : HOk P w H h) (e : Rd H a u) : ObjOk P w H h a u := e.ok ok
theorem dk_rd {kvs : List (Key × V)} (ok : HOk P w H h) (e : Rd H a (.dK kvs)) : kvs.length ≤ sizeLine ∧ (a == sysModules) = false ∧ ∃ vs, KV kvs vs ∧ h.DictOf (mixKind P w) a vs :=
  show ObjOk P w H h a (.dK kvs) from rd_of ok e
theorem dk_of {kvs : List (Key × V)} (ok : HOk P w H h) (e : H a = some (.dK kvs)) : kvs.length ≤ sizeLine ∧ (a == sysModules) = false ∧ ∃ vs, KV kvs vs ∧ h.DictOf (mixKind P w) a vs := dk_rd ok (.inl e)
/-- a tracked tuple of ints and texts is a key -/
theorem key_of {ks : List Key} (ok : HOk P w H h) (e : H a = some (.tup (ks.map kV))) : (tupleKind (mixKind P w)).is h ks a := by
  obtain ⟨_, its, r, o, h1, h2, n, h3⟩ := (show ObjOk P w H h a (.tup (ks.map kV)) from ok a _ e)
  exact ⟨o, its.toArray, n, h1, h2, h3, by simpa using items_are r⟩
theorem dt_rd {kvs : List (List Key × V)} (ok : HOk P w H h) (e : Rd H a (.dT kvs)) : kvs.length ≤ sizeLine ∧ (a == sysModules) = false ∧
    ∃ xs, KT H kvs xs ∧ h.DictOfH (tupleKind (mixKind P w)) a xs := by
  obtain ⟨z, y, xs, r, o, es, ep, h1, h2, h3, h4, h5⟩ := (show ObjOk P w H h a (.dT kvs) from rd_of ok e)
  refine ⟨z, y, xs, r, o, es, ep, h1, h2, h3, h4, fun x hx => ?_, h5⟩
  have all : ∀ {l : List (List Key × V)} {m : List (List Key × Addr × Value)}, KT H l m → ∀ x ∈ m, (tupleKind (mixKind P w)).is h x.1 x.2.1 := by
    intro l m q
    induction q with
    | nil => intro x hx; exact nomatch hx
    | @cons p q ps qs hq t ih =>
      intro x hx
      rcases List.mem_cons.mp hx with e | hx
      · subst e
        exact key_of ok (by rw [← hq.1]; exact hq.2.1)
      · exact ih x hx
  exact all r x hx
theorem dt_of {kvs : List (List Key × V)} (ok : HOk P w H h) (e : H a = some (.dT kvs)) : kvs.length ≤ sizeLine ∧ (a == sysModules) = false ∧
    ∃ xs, KT H kvs xs ∧ h.DictOfH (tupleKind (mixKind P w)) a xs := dt_rd ok (.inl e)
end

/-- what the dict at a holds at the key y -/
def DGet (H : Hp) (a : Addr) (y : V) (r : Option V) : Prop :=
  (∃ kvs k, Rd H a (.dK kvs) ∧ y = kV k ∧ r = valV kvs k) ∨ ∃ kvs k b, Rd H a (.dT kvs) ∧ y = .ref b ∧ H b = some (.tup (k.map kV)) ∧ r = valV kvs k
/-- the heap behind a[y] = v -/
def DPut (H : Hp) (a : Addr) (y v : V) (H' : Hp) : Prop :=
  (∃ kvs k, H a = some (.dK kvs) ∧ y = kV k ∧ kvs.length < sizeLine ∧ H' = upd H a (.dK (putK kvs k v))) ∨
  ∃ kvs k b, H a = some (.dT kvs) ∧ y = .ref b ∧ H b = some (.tup (k.map kV)) ∧ kvs.length < sizeLine ∧ H' = upd H a (.dT (putK kvs k v))
theorem DGet.k {H : Hp} {a : Addr} {kvs : List (Key × V)} {k : Key} (e : H a = some (.dK kvs)) : DGet H a (kV k) (valV kvs k) := .inl ⟨kvs, k, .inl e, rfl, rfl⟩
theorem DGet.t {H : Hp} {a b : Addr} {kvs : List (List Key × V)} {k : List Key} (e : H a = some (.dT kvs)) (eb : H b = some (.tup (k.map kV))) : DGet H a (.ref b) (valV kvs k) := .inr ⟨kvs, k, b, .inl e, rfl, eb, rfl⟩
theorem DPut.k {H : Hp} {a : Addr} {kvs : List (Key × V)} {k : Key} {v : V} (e : H a = some (.dK kvs)) (hl : kvs.length < sizeLine) : DPut H a (kV k) v (upd H a (.dK (putK kvs k v))) := .inl ⟨kvs, k, e, rfl, hl, rfl⟩
theorem DPut.t {H : Hp} {a b : Addr} {kvs : List (List Key × V)} {k : List Key} {v : V} (e : H a = some (.dT kvs)) (eb : H b = some (.tup (k.map kV))) (hl : kvs.length < sizeLine) :
    DPut H a (.ref b) v (upd H a (.dT (putK kvs k v))) := .inr ⟨kvs, k, b, e, rfl, eb, hl, rfl⟩


section
variable {X : Cx} {pins : List (Addr × Obj)} {σ : St} {H : Hp} {s : Shared} {a : Addr} {y v : V} {u r : Value} {o : Option V} {A : Around} {E : Value → Shared → Prop}

theorem Inv.big (I : Inv X pins σ H s) : sysModules < s.heap.objs.size := by
  have h : mainGlobals < s.heap.objs.size := (I.mod.glob.keeps I.bk).lt
  exact Nat.lt_trans (by decide) h

/-- d[y], there -/
theorem d_getItem {Q : Value → Shared → Prop} (hu : A.units + 1 < cLine) (I : Inv X pins σ H s) (g : DGet H a y (some v)) (ry : RelV y u) (h : ∀ w' s', Inv X pins σ H s' → RelV v w' → Q w' s') :
    wpAny (model X.prog X.w) A (getItem (.ref a) u) Q E s := by
  rcases g with ⟨kvs, k, e, ey, l⟩ | ⟨kvs, k, b, e, ey, eb, l⟩
  · subst ey
    obtain ⟨z, hd, vs, rel, dd⟩ := dk_rd I.hok e
    obtain ⟨w', hw, rw'⟩ := RelO.some_of (v := v) (o := valueAt vs k) (by rw [l]; exact rel.val k)
    exact wpAny_getItem_of (kV_is ry) dd.mapOf hw (h w' _ (I.tok _) rw')
  · subst ey
    cases (show u = Value.ref b from ry)
    obtain ⟨z, hd, xs, rel, dd⟩ := dt_rd I.hok e
    obtain ⟨w', hw, rw'⟩ := RelO.some_of (v := v) (o := (atKey xs k).map (·.2)) (by rw [l]; exact rel.val k)
    obtain ⟨p, hp, hp2⟩ := Option.map_eq_some_iff.mp hw
    refine wpAny_getItem_heap (tupleKind_room_in1 hu) (key_of I.hok eb) dd hp ?_
    rw [hp2]
    exact h w' _ (I.tok _) rw'
/-- y in d -/
theorem d_in {Q : Value → Shared → Prop} (hu : A.units + 1 < cLine) (I : Inv X pins σ H s) (g : DGet H a y o) (ry : RelV y u) (h : ∀ s', Inv X pins σ H s' → Q (.bool o.isSome) s') :
    wpAny (model X.prog X.w) A (compareOp .In u (.ref a)) Q E s := by
  rcases g with ⟨kvs, k, e, ey, l⟩ | ⟨kvs, k, b, e, ey, eb, l⟩
  · subst ey
    obtain ⟨z, hd, vs, rel, dd⟩ := dk_rd I.hok e
    refine wpAny_in_of (kV_is ry) hd dd.mapOf ?_
    rw [← (rel.val k).isSome_eq, ← l]
    exact h _ (I.tok _)
  · subst ey
    cases (show u = Value.ref b from ry)
    obtain ⟨z, hd, xs, rel, dd⟩ := dt_rd I.hok e
    refine wpAny_in_heap (tupleKind_room_in1 hu) (key_of I.hok eb) hd dd ?_
    have q := (rel.val k).isSome_eq
    rw [Option.isSome_map] at q
    rw [← q, ← l]
    exact h _ (I.tok _)
theorem d_notIn {Q : Value → Shared → Prop} (hu : A.units + 1 < cLine) (I : Inv X pins σ H s) (g : DGet H a y o) (ry : RelV y u) (h : ∀ s', Inv X pins σ H s' → Q (.bool (!o.isSome)) s') :
    wpAny (model X.prog X.w) A (compareOp .NotIn u (.ref a)) Q E s := by
  rcases g with ⟨kvs, k, e, ey, l⟩ | ⟨kvs, k, b, e, ey, eb, l⟩
  · subst ey
    obtain ⟨z, hd, vs, rel, dd⟩ := dk_rd I.hok e
    refine wpAny_notIn_of (kV_is ry) hd dd.mapOf ?_
    rw [← (rel.val k).isSome_eq, ← l]
    exact h _ (I.tok _)
  · subst ey
    cases (show u = Value.ref b from ry)
    obtain ⟨z, hd, xs, rel, dd⟩ := dt_rd I.hok e
    refine wpAny_notIn_heap (tupleKind_room_in1 hu) (key_of I.hok eb) hd dd ?_
    have q := (rel.val k).isSome_eq
    rw [Option.isSome_map] at q
    rw [← q, ← l]
    exact h _ (I.tok _)
/-- a dict's object is replaced -/
theorem d_write {h' : Heap} {t' : Nat} {ob : HO} (I : Inv X pins σ H s) (mu : Mut (H a)) (hs : Heap.SameBut a s.heap h') (he : ∃ q, h'.get? a = some q) (new : ObjOk X.prog X.w (upd H a ob) h' a ob) :
    Inv X pins σ (upd H a ob) { s with heap := h', toks := t' } :=
  I.write (x := a) (e := a) mu (.inl rfl) (fun b q hb z => (hs.2 b hb).trans z) he new
theorem dk_new {P : Program} {w : World} {H' : Hp} {h' : Heap} {kvs : List (Key × V)} {vs : List (Key × Value)} (z : kvs.length ≤ sizeLine) (hd : (a == sysModules) = false) (rel : KV kvs vs) (dd : h'.DictOf (mixKind P w) a vs) :
    ObjOk P w H' h' a (.dK kvs) := ⟨z, hd, vs, rel, dd⟩
/-- d[y] = v -/
theorem d_setItem {H' : Hp} {Q : Unit → Shared → Prop} (hu : A.units + 1 < cLine) (I : Inv X pins σ H s) (g : DPut H a y v H') (ry : RelV y u) (rv : RelV v r) (h : ∀ s', Inv X pins σ H' s' → Q () s') :
    wpAny (model X.prog X.w) A (setItem (.ref a) u r) Q E s := by
  rcases g with ⟨kvs, k, e, ey, l, eH⟩ | ⟨kvs, k, b, e, ey, eb, l, eH⟩
  · subst ey eH
    obtain ⟨z, hd, vs, rel, dd⟩ := dk_of I.hok e
    have hz : vs.length ≤ sizeLine := by rw [← rel.length]; exact z
    have hl : (putK kvs k v).length ≤ sizeLine := by have := length_putK kvs k v; omega
    refine wpAny_setItem_pairs (hsz := hz) (kV_is ry) dd fun h' dd' hs => h _ ?_
    have he : ∃ q, h'.get? a = some q := let ⟨q, _, _, hq, _⟩ := dd'; ⟨q, hq⟩
    exact d_write I (by rw [e]; exact True.intro) hs he (dk_new hl hd (rel.put k rv) dd')
  · subst ey eH
    cases (show u = Value.ref b from ry)
    obtain ⟨z, hd, xs, rel, dd⟩ := dt_of I.hok e
    have hz : xs.length ≤ sizeLine := by rw [← Paired.length rel]; exact z
    have hl : (putK kvs k v).length ≤ sizeLine := by have := length_putK kvs k v; omega
    refine wpAny_setItem_heap (hsz := hz) (tupleKind_room_in1 hu) (key_of I.hok eb) dd fun h' dd' hs => h _ ?_
    obtain ⟨q, es, ep, hq, h2, h3, h4, _, h5⟩ := dd'
    refine d_write I (by rw [e]; exact True.intro) hs ⟨q, hq⟩ ⟨hl, hd, _, (rel.put k eb rv).keeps fun c ys ec => ?_, q, es, ep, hq, h2, h3, h4, h5⟩
    rw [upd_ne (ne_of ec e (fun z => nomatch z))]
    exact ec
end

section
variable {X : Cx} {pins : List (Addr × Obj)} {σ : St} {H : Hp} {s : Shared} {a : Addr} {kvs : List (Key × V)} {k : Key} {u : Value} {A : Around} {E : Value → Shared → Prop}
/-- del d[k] -/
theorem d_delItem {Q : Unit → Shared → Prop} (I : Inv X pins σ H s) (e : H a = some (.dK kvs)) (ry : RelV (kV k) u) (l : (valV kvs k).isSome = true) (h : ∀ s', Inv X pins σ (upd H a (.dK (dropK kvs k))) s' → Q () s') :
    wpAny (model X.prog X.w) A (delItem (.ref a) u) Q E s := by
  obtain ⟨z, hd, vs, rel, dd⟩ := dk_of I.hok e
  refine wpAny_delItem_slot dd.typeIs (by decide) PySem.F.slot_dict_delitem
    (call_meetsIn PySem.F.slot_dict_delitem dd.typeIs PySem.F.entry_dict_delitem (PySem.F.args_dict_delitem_2 _ _) (meets_dict_delitem_pairs (mixKind X.prog X.w) a (kV_is ry)) ⟨vs, dd, by rw [← rel.length]; exact z, by rw [← (rel.val k).isSome_eq]; exact l, fun h' dd' hs => h _ ?_⟩)
  have he : ∃ q, h'.get? a = some q := let ⟨q, _, _, hq, _⟩ := dd'; ⟨q, hq⟩
  exact d_write I (by rw [e]; exact True.intro) hs he (dk_new (Nat.le_trans (dropK_le kvs k) z) hd (rel.drop k) dd')
/-- d.pop(k[, x]), there -/
theorem d_pop {v : V} {more : List Value} {Q : Value → Shared → Prop} (I : Inv X pins σ H s) (e : H a = some (.dK kvs)) (ry : RelV (kV k) u) (l : valV kvs k = some v) (hm : more = [] ∨ ∃ x, more = [x])
    (h : ∀ w' s', Inv X pins σ (upd H a (.dK (dropK kvs k))) s' → RelV v w' → Q w' s') : wpAny (model X.prog X.w) A (call (.builtin "dict.pop") (.ref a :: u :: more)) Q E s := by
  obtain ⟨z, hd, vs, rel, dd⟩ := dk_of I.hok e
  obtain ⟨w', hw, rw'⟩ := RelO.some_of (v := v) (o := valueAt vs k) (by rw [← l]; exact rel.val k)
  have hp : (keyPart u).isSome = true := by
    cases k with
    | inl i => obtain ⟨t, q⟩ := (show ∃ t, u = Value.int i t from ry); subst q; rfl
    | inr x => obtain ⟨t, q⟩ := (show ∃ t, u = Value.str x t from ry); subst q; rfl
  have ha : argsOk "dict.pop" ⟨.ref a :: u :: more, []⟩ := by
    rcases hm with q | ⟨x, q⟩
    · subst q; exact PySem.F.args_dict_pop_2 _ _
    · subst q; exact PySem.F.args_dict_pop_3 _ _ _
  refine call_meetsIn PySem.F.slot_dict_pop dd.typeIs PySem.F.entry_dict_pop ha (meets_dict_pop_there (mixKind X.prog X.w) a (kV_is ry) more hm hp)
    ⟨vs, w', dd, by rw [← rel.length]; exact z, hw, fun h' dd' hs => h w' _ ?_ rw'⟩
  have he : ∃ q, h'.get? a = some q := let ⟨q, _, _, hq, _⟩ := dd'; ⟨q, hq⟩
  exact d_write I (by rw [e]; exact True.intro) hs he (dk_new (Nat.le_trans (dropK_le kvs k) z) hd (rel.drop k) dd')
/-- d.pop(k, x), not there -/
theorem d_popD {r : Value} {Q : Value → Shared → Prop} (I : Inv X pins σ H s) (e : H a = some (.dK kvs)) (ry : RelV (kV k) u) (l : valV kvs k = none) (h : ∀ s', Inv X pins σ H s' → Q r s') :
    wpAny (model X.prog X.w) A (call (.builtin "dict.pop") [.ref a, u, r]) Q E s := by
  obtain ⟨z, hd, vs, rel, dd⟩ := dk_of I.hok e
  have hn : valueAt vs k = none := RelO.none_of (by rw [← l]; exact rel.val k)
  have hp : (keyPart u).isSome = true := by
    cases k with
    | inl i => obtain ⟨t, q⟩ := (show ∃ t, u = Value.int i t from ry); subst q; rfl
    | inr x => obtain ⟨t, q⟩ := (show ∃ t, u = Value.str x t from ry); subst q; rfl
  exact call_meetsIn PySem.F.slot_dict_pop dd.typeIs PySem.F.entry_dict_pop (PySem.F.args_dict_pop_3 _ _ _) (meets_dict_pop_default (mixKind X.prog X.w) a (kV_is ry) hd hp r) ⟨vs, dd, hn, h _ (I.tok _)⟩
/-- d.clear() -/
theorem d_clear {Q : Value → Shared → Prop} (I : Inv X pins σ H s) (e : H a = some (.dK kvs)) (h : ∀ s', Inv X pins σ (upd H a (.dK [])) s' → Q .none s') : wpAny (model X.prog X.w) A (call (.builtin "dict.clear") [.ref a]) Q E s := by
  obtain ⟨z, hd, vs, rel, dd⟩ := dk_of I.hok e
  refine call_meetsIn PySem.F.slot_dict_clear dd.typeIs PySem.F.entry_dict_clear (PySem.F.args_dict_clear_1 _) (meets_dict_clear (mixKind X.prog X.w) a) ⟨vs, dd, by rw [← rel.length]; exact z, fun h' dd' hs => h _ ?_⟩
  have he : ∃ q, h'.get? a = some q := let ⟨q, _, _, hq, _⟩ := dd'; ⟨q, hq⟩
  exact d_write (t' := s.toks) I (by rw [e]; exact True.intro) hs he (dk_new (Nat.zero_le _) hd .nil dd')
/-- len(d) -/
theorem d_len {Q : Value → Shared → Prop} (I : Inv X pins σ H s) (e : Rd H a (.dK kvs)) (h : ∀ t s', Inv X pins σ H s' → Q (.int kvs.length t) s') : wpAny (model X.prog X.w) A (call (.builtin "len") [.ref a]) Q E s := by
  obtain ⟨z, hd, vs, rel, dd⟩ := dk_rd I.hok e
  refine call_len_dict hd dd (by rw [← rel.length]; rw [sizeLine_eq] at z; omega) ?_
  rw [← rel.length]
  exact h _ _ (I.tok _)
/-- if d -/
theorem d_truth {Q : Bool → Shared → Prop} (I : Inv X pins σ H s) (e : Rd H a (.dK kvs)) (h : ∀ s', Inv X pins σ H s' → Q (!kvs.isEmpty) s') : wpAny (model X.prog X.w) A (truthy (.ref a)) Q E s := by
  obtain ⟨z, hd, vs, rel, dd⟩ := dk_rd I.hok e
  refine wpAny_truthy_dict hd dd (by rw [← rel.length]; rw [sizeLine_eq] at z; omega) ?_
  have q : kvs.isEmpty = vs.isEmpty := by cases rel <;> rfl
  rw [← q]
  exact h _ (I.tok _)
end


/-! ### readings and rules -/
/-- the element of a subscription, not a slice -/
def NoSl (i : Expr) : Prop := ∀ ov iv, subscripted i false ov iv = operate [ov, iv] (getItem ov iv)
theorem subD_of {prog : Program} {w : World} {A : Around} {E : Value → Shared → Prop} {s : Shared} {env : Env} {value slice : Expr} {pos : Pos} {T id : String} {Q : Value → Shared → Prop}
    (hl : typeLookup (.type T) "__getitem__" = pure (some (.builtin id))) (hs : NoSl slice)
    (h : wpAny (model prog w) A (eval value env) (fun o s₁ => wpAny (model prog w) A (eval slice env) (fun i s₂ => s₂.TypeIs o T ∧ wpAny (model prog w) A (getItem o i) Q E s₂) E s₁) E s) :
    wpAny (model prog w) A (eval (.Subscript value slice pos) env) Q E s := by
  refine Subscript_ (wpAny_mono h (fun o s₁ h₁ => wpAny_mono h₁ (fun i s₂ h₂ => ?_) fun _ _ x => x) fun _ _ x => x)
  obtain ⟨hT, h₂⟩ := h₂
  unfold subscriptTail
  refine wpAny_bind ?_
  rw [getitemInPython_of_ne hT.not_modules]
  refine wpAny_bind (wpAny_specialOf hT hl ?_)
  have fin : wpAny (model prog w) A (subscripted slice false o i) (fun r s₃ => wpAny (model prog w) A (letTemporaryGo value o r >>= fun _ => pure r) Q E s₃) E s₂ := by
    rw [hs o i]
    exact wpAny_operating (wpAny_mono h₂ (fun r s₃ h₃ => wpAny_bind (wpAny_letTemporaryGo (wpAny_pure h₃))) fun _ _ x => x)
  first
    | exact wpAny_pure (wpAny_bind fin)
    | exact wpAny_bind (wpAny_pure (wpAny_bind fin))
    | exact wpAny_bind fin

theorem dict_typeIs {X : Cx} {pins : List (Addr × Obj)} {σ : St} {H : Hp} {s : Shared} {a : Addr} {y : V} {o : Option V} (I : Inv X pins σ H s) (g : DGet H a y o) : s.TypeIs (.ref a) "dict" := by
  rcases g with ⟨kvs, k, e, _, _⟩ | ⟨kvs, k, b, e, _, _, _⟩
  · obtain ⟨_, _, vs, _, dd⟩ := dk_rd I.hok e
    exact dd.typeIs
  · obtain ⟨_, _, xs, _, dd⟩ := dt_rd I.hok e
    exact dd.typeIs
theorem dict_noDict {X : Cx} {pins : List (Addr × Obj)} {σ : St} {H : Hp} {s : Shared} {a : Addr} {y : V} {o : Option V} (I : Inv X pins σ H s) (g : DGet H a y o) :
    ∀ b, Value.ref a = .ref b → ∃ ob, s.heap.get? b = some ob ∧ ob.dict = none := fun b q => by
  cases q
  rcases g with ⟨kvs, k, e, _, _⟩ | ⟨kvs, k, b, e, _, _, _⟩
  · obtain ⟨_, _, vs, _, ob, _, _, h1, h2, _⟩ := dk_rd I.hok e
    exact ⟨ob, h1, h2.2.1⟩
  · obtain ⟨_, _, xs, _, ob, _, _, h1, h2, _⟩ := dt_rd I.hok e
    exact ⟨ob, h1, h2.2.1⟩

/-- d[y] -/
def tDGet (td ty : TE) : TE := fun σ H Q => td σ H fun x H1 => ty σ H1 fun y H2 => ∃ a v, x = .ref a ∧ DGet H2 a y (some v) ∧ Q v H2
/-- y in d, y not in d -/
def tDIn (ty td : TE) : TE := fun σ H Q => ty σ H fun y H1 => td σ H1 fun x H2 => ∃ a o, x = .ref a ∧ DGet H2 a y o ∧ Q (.bl o.isSome) H2
def tDNotIn (ty td : TE) : TE := fun σ H Q => ty σ H fun y H1 => td σ H1 fun x H2 => ∃ a o, x = .ref a ∧ DGet H2 a y o ∧ Q (.bl (!o.isSome)) H2
/-- d[y] = v -/
def sDPut (td ty tv : TE) : TS := fun D σ H => tv σ H fun v H1 => td σ H1 fun x H2 => ty σ H2 fun y H3 => ∃ a H4, x = .ref a ∧ DPut H3 a y v H4 ∧ D.nx σ H4
/-- d[y] op= v -/
def sDAug (td ty tv : TE) (rd : V → V → Hp → VK → Prop) : TS := fun D σ H => td σ H fun x H1 => ty σ H1 fun y H2 => ∃ a v, x = .ref a ∧ DGet H2 a y (some v) ∧
  tv σ H2 fun y2 H3 => rd v y2 H3 fun z H4 => ∃ H5, DPut H4 a y z H5 ∧ D.nx σ H5
/-- del d[y] -/
def sDDel (td ty : TE) : TS := fun D σ H => td σ H fun x H1 => ty σ H1 fun y H2 => ∃ a kvs k, x = .ref a ∧ H2 a = some (.dK kvs) ∧ y = kV k ∧ (valV kvs k).isSome = true ∧ D.nx σ (upd H2 a (.dK (dropK kvs k)))

section
variable {X : Cx} {o i e value : Expr} {pos pos' tpos : Pos} {td ty tv : TE}
theorem pe_dget (hu : X.A.units + 1 < cLine) (ho : PE X o td) (hi : PE X i ty) (hs : NoSl i) : PE X (.Subscript o i pos) (tDGet td ty) := by
  intro pins s σ H Q I h
  refine subD_of PySem.F.slot_dict_getitem.lookup hs (thn (ho pins s σ H _ I h) fun u s1 ⟨x, H1, I1, rx, q1⟩ => thn (hi pins s1 σ H1 _ I1 q1) fun iv s2 ⟨y, H2, I2, ry, a, v, ex, g, q2⟩ => ?_)
  subst ex
  obtain rfl : u = Value.ref a := rx
  exact ⟨dict_typeIs I2 g, d_getItem hu I2 g ry fun w' s3 I3 rw' => ⟨v, H2, I3, rw', q2⟩⟩
theorem pc_din (hu : X.A.units + 1 < cLine) (hi : PE X i ty) (ho : PE X o td) : PC X .In i o (tDIn ty td) := by
  intro pins s σ H Q I h
  refine thn (hi pins s σ H _ I h) fun iv s1 ⟨y, H1, I1, ry, q1⟩ => thn (ho pins s1 σ H1 _ I1 q1) fun u s2 ⟨x, H2, I2, rx, a, ov, ex, g, q2⟩ => ?_
  subst ex
  obtain rfl : u = Value.ref a := rx
  exact d_in hu I2 g ry fun s3 I3 => ⟨.bl ov.isSome, H2, I3, rfl, q2⟩
theorem pc_dnotin (hu : X.A.units + 1 < cLine) (hi : PE X i ty) (ho : PE X o td) : PC X .NotIn i o (tDNotIn ty td) := by
  intro pins s σ H Q I h
  refine thn (hi pins s σ H _ I h) fun iv s1 ⟨y, H1, I1, ry, q1⟩ => thn (ho pins s1 σ H1 _ I1 q1) fun u s2 ⟨x, H2, I2, rx, a, ov, ex, g, q2⟩ => ?_
  subst ex
  obtain rfl : u = Value.ref a := rx
  exact d_notIn hu I2 g ry fun s3 I3 => ⟨.bl (!ov.isSome), H2, I3, rfl, q2⟩
theorem ps_dput (hu : X.A.units + 1 < cLine) (ho : PE X o td) (hi : PE X i ty) (hv : PE X value tv) (hs : swapsWith value (some (.Subscript o i pos')) pos.line X.env = pure false) :
    PS X (.Assign [.Subscript o i pos'] value pos) (sDPut td ty tv) := by
  intro pins s σ H D I h
  refine wpAny_Assign_Subscript (thn (hv pins s σ H _ I h) fun r s1 ⟨v, H1, I1, rv, q1⟩ => thn (ho pins s1 σ H1 _ I1 q1) fun u s2 ⟨x, H2, I2, rx, q2⟩ => thn (hi pins s2 σ H2 _ I2 q2) fun iv s3 ⟨y, H3, I3, ry, a, H4, ex, g, q3⟩ => ?_) hs
  subst ex
  obtain rfl : u = Value.ref a := rx
  exact d_setItem hu I3 g ry rv fun s4 I4 => ⟨σ, H4, I4, q3⟩
theorem ps_daug {op : Operator} {rd : V → V → Hp → VK → Prop} (hu : X.A.units + 1 < cLine) (ho : PE X o td) (hi : PE X i ty) (hv : PE X value tv) (hop : InOp X op rd)
    (ha : ∀ ov iv new, augStore i ov iv new = (do holding [new, ov, iv] (setItem ov iv new); release [new, ov, iv] []; pure .next)) : PS X (.AugAssign (.Subscript o i tpos) op value pos) (sDAug td ty tv rd) := by
  intro pins s σ H D I h
  refine wpAny_AugAssign_SubscriptAny (thn (ho pins s σ H _ I h) fun u s1 ⟨x, H1, I1, rx, q1⟩ => thn (hi pins s1 σ H1 _ I1 q1) fun iv s2 ⟨y, H2, I2, ry, a, v, ex, g, q2⟩ => ?_) ha
  subst ex
  obtain rfl : u = Value.ref a := rx
  refine d_getItem hu I2 g ry fun w' s3 I3 rw' => thn (hv pins s3 σ H2 _ I3 q2) fun w2 s4 ⟨y2, H3, I4, ry2, q3⟩ => thn (hop pins s4 σ H3 v y2 w' w2 _ I4 rw' ry2 q3) fun w3 s5 ⟨z, H4, I5, rz, H5, g5, q4⟩ => ?_
  exact d_setItem hu I5 g5 ry rz fun s6 I6 => ⟨σ, H5, I6, q4⟩
theorem ps_ddel (ho : PE X o td) (hi : PE X i ty) : PS X (.Delete [.Subscript o i tpos] pos) (sDDel td ty) := by
  intro pins s σ H D I h
  refine wpAny_Delete (wpAny_deleteEach_cons (wpAny_delete_Subscript (thn (ho pins s σ H _ I h) fun u s1 ⟨x, H1, I1, rx, q1⟩ => thn (hi pins s1 σ H1 _ I1 q1) fun iv s2 ⟨y, H2, I2, ry, a, kvs, k, ex, e, ey, l, q2⟩ => ?_)))
  subst ex ey
  obtain rfl : u = Value.ref a := rx
  exact d_delItem I2 e ry l fun s3 I3 => wpAny_deleteEach_nil ⟨σ, _, I3, q2⟩
end


/-! ### displays -/
theorem dk_empty {P : Program} {w : World} {H : Hp} (h : Heap) (hb : sysModules < h.objs.size) : ObjOk P w H (h.push { cls := .type "dict", data := .dict #[] }) h.objs.size (.dK []) :=
  ⟨Nat.zero_le _, beq_eq_false_iff_ne.mpr (Ne.symm (Nat.ne_of_lt hb)), [], .nil, Heap.DictOf.new h⟩
theorem dt_empty {P : Program} {w : World} {H : Hp} (h : Heap) (hb : sysModules < h.objs.size) : ObjOk P w H (h.push { cls := .type "dict", data := .dict #[] }) h.objs.size (.dT []) :=
  ⟨Nat.zero_le _, beq_eq_false_iff_ne.mpr (Ne.symm (Nat.ne_of_lt hb)), [], .nil, _, #[], 0, Heap.get?_push_size _ rfl, ⟨rfl, rfl, rfl⟩, rfl, rfl, List.nodup_nil⟩
/-- {}, to be a dict of the kind that is wanted -/
def tDNewK : TE := fun _ H Q => ∀ p, H p = none → Q (.ref p) (upd H p (.dK []))
def tDNewT : TE := fun _ H Q => ∀ p, H p = none → Q (.ref p) (upd H p (.dT []))
section
variable {X : Cx} {pos : Pos}
theorem pe_dnewK : PE X (.Dict [] [] pos) tDNewK := fun pins s σ H Q I h =>
  wpAny_Dict_empty ⟨.ref s.heap.objs.size, _, I.laid (a := s.heap.objs.size) (o := .dK []) (t' := s.toks) (fun _ _ q => Heap.get?_push_of_some _ q) (Nat.le_refl _) (dk_empty s.heap I.big), rfl, h _ (I.hok.fresh (Nat.le_refl _))⟩
theorem pe_dnewT : PE X (.Dict [] [] pos) tDNewT := fun pins s σ H Q I h =>
  wpAny_Dict_empty ⟨.ref s.heap.objs.size, _, I.laid (a := s.heap.objs.size) (o := .dT []) (t' := s.toks) (fun _ _ q => Heap.get?_push_of_some _ q) (Nat.le_refl _) (dt_empty s.heap I.big), rfl, h _ (I.hok.fresh (Nat.le_refl _))⟩
end

/-- the pairs of a display, from the left -/
def tPairs : List (TE × TE) → St → Hp → (List (V × V) → Hp → Prop) → Prop
  | [], _, H, Q => Q [] H
  | (tk, tv) :: r, σ, H, Q => tk σ H fun x H1 => tv σ H1 fun y H2 => tPairs r σ H2 fun ps H3 => Q ((x, y) :: ps) H3
abbrev VV : List (V × V) → List (Value × Value) → Prop := Paired fun p q => RelV p.1 q.1 ∧ RelV p.2 q.2
def PPs (X : Cx) (pos : Pos) (keys : List (Option Expr)) (values : List Expr) (trs : List (TE × TE)) : Prop :=
  ∀ (pins : List (Addr × Obj)) (s : Shared) (σ : St) (H : Hp) (Q : List (V × V) → Hp → Prop), Inv X pins σ H s → tPairs trs σ H Q →
    wpAny (model X.prog X.w) X.A (evalPairs (pairTrees keys values X.env pos)) (fun vs s' => ∃ ps H', Inv X pins σ H' s' ∧ VV ps vs ∧ Q ps H') X.xe s
theorem pps_nil {X : Cx} {pos : Pos} : PPs X pos [] [] [] := fun pins s σ H Q I h => pairTrees_nil_walk ⟨[], H, I, .nil, h⟩
theorem pps_cons {X : Cx} {pos : Pos} {k v : Expr} {ks : List (Option Expr)} {vs : List Expr} {tk tv : TE} {trs : List (TE × TE)} (hk : PE X k tk) (hv : PE X v tv) (hr : PPs X pos ks vs trs) :
    PPs X pos (some k :: ks) (v :: vs) ((tk, tv) :: trs) := fun pins s σ H Q I h =>
  pairTrees_cons_walk (thn (hk pins s σ H _ I h) fun u s1 ⟨x, H1, I1, rx, q1⟩ => thn (hv pins s1 σ H1 _ I1 q1) fun w2 s2 ⟨y, H2, I2, ry, q2⟩ =>
    thn (hr pins s2 σ H2 _ I2 q2) fun ws s3 ⟨ps, H3, I3, rel, q3⟩ => ⟨(x, y) :: ps, H3, I3, .cons ⟨rx, ry⟩ rel, q3⟩)

def mergeK (kvs more : List (Key × V)) : List (Key × V) := more.foldl (fun acc kv => putK acc kv.1 kv.2) kvs
theorem KV.merge : ∀ {more : List (Key × V)} {rs : List (Key × Value)} {kvs : List (Key × V)} {vs : List (Key × Value)}, KV more rs → KV kvs vs → KV (mergeK kvs more) (merged vs rs) := by
  intro more rs kvs vs r
  unfold KV at r
  induction r generalizing kvs vs with
  | nil => intro q; exact q
  | @cons p q ps qs h t ih =>
    intro r0
    have e : KV (putK kvs p.1 p.2) (stored vs q.1 q.2) := by
      have := r0.put p.1 h.2
      rw [← h.1]; exact this
    exact ih e
theorem length_mergeK : ∀ (more kvs : List (Key × V)), (mergeK kvs more).length ≤ kvs.length + more.length
  | [], kvs => by show kvs.length ≤ kvs.length + 0; omega
  | p :: r, kvs => by
    have h1 := length_mergeK r (putK kvs p.1 p.2)
    have h2 := length_putK kvs p.1 p.2
    show (mergeK (putK kvs p.1 p.2) r).length ≤ _
    rw [List.length_cons]; omega
theorem carries_of {P : Program} {w : World} : ∀ {kvs : List (Key × V)} {ws : List (Value × Value)}, VV (kvs.map fun kv => (kV kv.1, kv.2)) ws → ∃ rs, Carries (mixKind P w) ws rs ∧ KV kvs rs
  | [], _, r => by rw [List.map_nil] at r; cases r; exact ⟨[], True.intro, .nil⟩
  | p :: kvs, _, r => by
    rw [List.map_cons] at r
    cases r with
    | @cons a b as bs h t =>
      obtain ⟨rs, c, q⟩ := carries_of (P := P) (w := w) t
      obtain ⟨b1, b2⟩ := b
      exact ⟨(p.1, b2) :: rs, ⟨kV_is h.1, rfl, c⟩, .cons ⟨rfl, h.2⟩ q⟩
/-- {k: v, ..} with keys ints and texts; the new dict stands empty while the pairs are made -/
def tDisp (trs : List (TE × TE)) : TE := fun σ H Q => ∀ p, H p = none → tPairs trs σ (upd H p (.dK [])) fun ps H2 => H2 p = some (.dK []) ∧ ∃ kvs : List (Key × V), ps = kvs.map (fun kv => (kV kv.1, kv.2)) ∧ kvs.length ≤ 15 ∧ Q (.ref p) (upd H2 p (.dK (mergeK [] kvs)))
theorem pe_disp {X : Cx} {pos : Pos} {keys : List (Option Expr)} {values : List Expr} {trs : List (TE × TE)} (h : PPs X pos keys values trs) (hall : keys.all (·.isSome) = true) (hl : keys.length = values.length) (h0 : keys ≠ [])
    (h15 : keys.length ≤ 15) : PE X (.Dict keys values pos) (tDisp trs) := by
  intro pins s σ H Q I q
  have hn := I.hok.fresh (Nat.le_refl s.heap.objs.size)
  have I1 := I.laid (a := s.heap.objs.size) (o := .dK []) (h' := s.heap.push { cls := .type "dict", data := .dict #[] }) (t' := s.toks) (fun _ _ q => Heap.get?_push_of_some _ q) (Nat.le_refl _) (dk_empty s.heap I.big)
  refine wpAny_Dict_walk (knd := mixKind X.prog X.w) hall hl h0 h15 (thn (h pins _ σ _ _ I1 (q _ hn)) fun ws s2 ⟨ps, H2, I2, rel, e, kvs, ep, lk, q2⟩ => ?_)
  subst ep
  obtain ⟨rs, c, rk⟩ := carries_of (P := X.prog) (w := X.w) rel
  obtain ⟨z, hd, vs0, r0, dd⟩ := dk_of I2.hok e
  cases r0
  refine ⟨rs, c, dd, fun h' dd' hs => ⟨.ref s.heap.objs.size, _, ?_, rfl, q2⟩⟩
  have hz : (mergeK [] kvs).length ≤ sizeLine := by
    have h1 := length_mergeK kvs []
    rw [List.length_nil] at h1
    rw [sizeLine_eq]; omega
  have he : ∃ q, h'.get? s.heap.objs.size = some q := let ⟨q, _, _, hq, _⟩ := dd'; ⟨q, hq⟩
  exact d_write I2 (by rw [e]; exact True.intro) hs he (dk_new hz hd (rk.merge .nil) dd')


/-! ### methods -/
/-- a method call o.m(e) of a built-in, with one argument: what must be seen of the text -/
structure M1 (X : Cx) (o : Expr) (m : Str) (apos : Pos) (e : Expr) (cpos : Pos) : Prop where
  base : attributeBase o m X.env (eval o X.env) = eval o X.env
  few : ((backTo cpos (starEach [e] X.env)).all (fun x => !x.1) && (backToKw cpos (keywordEach [] X.env)).all (fun x => x.1.isSome)
    && decide (([e] : List Expr).length + ([] : List Keyword).length + (if ([] : List Keyword).isEmpty then 0 else 1) < 30)) = true
  line : (apos.endLine == cpos.line) = true
  trees : backTo cpos (starEach [e] X.env) = [(false, eval e X.env)]
structure M2 (X : Cx) (o : Expr) (m : Str) (apos : Pos) (e f : Expr) (cpos : Pos) : Prop where
  base : attributeBase o m X.env (eval o X.env) = eval o X.env
  few : ((backTo cpos (starEach [e, f] X.env)).all (fun x => !x.1) && (backToKw cpos (keywordEach [] X.env)).all (fun x => x.1.isSome)
    && decide (([e, f] : List Expr).length + ([] : List Keyword).length + (if ([] : List Keyword).isEmpty then 0 else 1) < 30)) = true
  line : (apos.endLine == cpos.line) = true
  trees : backTo cpos (starEach [e, f] X.env) = [(false, eval e X.env), (false, eval f X.env)]

/-- a is a dict, whatever its keys -/
def IsD (H : Hp) (a : Addr) : Prop := (∃ kvs, Rd H a (.dK kvs)) ∨ ∃ kvs, Rd H a (.dT kvs)
theorem isD_at {X : Cx} {pins : List (Addr × Obj)} {σ : St} {H : Hp} {s : Shared} {a : Addr} (I : Inv X pins σ H s) (d : IsD H a) :
    s.TypeIs (.ref a) "dict" ∧ (∀ b, Value.ref a = .ref b → ∃ ob, s.heap.get? b = some ob ∧ ob.dict = none) ∧ (a == sysModules) = false := by
  rcases d with ⟨kvs, e⟩ | ⟨kvs, e⟩
  · obtain ⟨_, hd, vs, _, dd⟩ := dk_rd I.hok e
    refine ⟨dd.typeIs, fun b q => ?_, hd⟩
    cases q
    obtain ⟨ob, _, _, h1, h2, _⟩ := dd
    exact ⟨ob, h1, h2.2.1⟩
  · obtain ⟨_, hd, xs, _, dd⟩ := dt_rd I.hok e
    refine ⟨dd.typeIs, fun b q => ?_, hd⟩
    cases q
    obtain ⟨ob, _, _, h1, h2, _⟩ := dd
    exact ⟨ob, h1, h2.2.1⟩

section
variable {X : Cx} {pins : List (Addr × Obj)} {σ : St} {H : Hp} {s : Shared} {a : Addr} {y d : V} {u r : Value} {o : Option V} {A : Around} {E : Value → Shared → Prop}
/-- d.get(y) -/
theorem d_get1 {Q : Value → Shared → Prop} (hu : A.units + 1 < cLine) (I : Inv X pins σ H s) (g : DGet H a y o) (ry : RelV y u) (h : ∀ w' s', Inv X pins σ H s' → RelV (o.getD .non) w' → Q w' s') :
    wpAny (model X.prog X.w) A (call (.builtin "dict.get") [.ref a, u]) Q E s := by
  rcases g with ⟨kvs, k, e, ey, l⟩ | ⟨kvs, k, b, e, ey, eb, l⟩
  · subst ey
    obtain ⟨z, hd, vs, rel, dd⟩ := dk_rd I.hok e
    refine call_meetsIn PySem.F.slot_dict_get dd.typeIs PySem.F.entry_dict_get (PySem.F.args_dict_get_2 _ _) (meets_dict_get (mixKind X.prog X.w) a (kV_is ry) hd) ⟨_, dd.mapOf, h _ _ (I.tok _) ?_⟩
    rw [l]
    exact (rel.val k).getD rfl
  · subst ey
    cases (show u = Value.ref b from ry)
    obtain ⟨z, hd, xs, rel, dd⟩ := dt_rd I.hok e
    refine call_meetsIn PySem.F.slot_dict_get dd.typeIs PySem.F.entry_dict_get (PySem.F.args_dict_get_2 _ _) (meetsH_dict_get (tupleKind (mixKind X.prog X.w)) a b hd) ⟨tupleKind_room_in1 hu, k, xs, key_of I.hok eb, dd, h _ _ (I.tok _) ?_⟩
    rw [l]
    exact (rel.val k).getD rfl
/-- d.get(y, x) -/
theorem d_get2 {Q : Value → Shared → Prop} (hu : A.units + 1 < cLine) (I : Inv X pins σ H s) (g : DGet H a y o) (ry : RelV y u) (rd : RelV d r) (h : ∀ w' s', Inv X pins σ H s' → RelV (o.getD d) w' → Q w' s') :
    wpAny (model X.prog X.w) A (call (.builtin "dict.get") [.ref a, u, r]) Q E s := by
  rcases g with ⟨kvs, k, e, ey, l⟩ | ⟨kvs, k, b, e, ey, eb, l⟩
  · subst ey
    obtain ⟨z, hd, vs, rel, dd⟩ := dk_rd I.hok e
    refine call_meetsIn PySem.F.slot_dict_get dd.typeIs PySem.F.entry_dict_get (PySem.F.args_dict_get_3 _ _ _) (meets_dict_get_default (mixKind X.prog X.w) a (kV_is ry) hd r) ⟨_, dd.mapOf, h _ _ (I.tok _) ?_⟩
    rw [l]
    exact (rel.val k).getD rd
  · subst ey
    cases (show u = Value.ref b from ry)
    obtain ⟨z, hd, xs, rel, dd⟩ := dt_rd I.hok e
    refine call_meetsIn PySem.F.slot_dict_get dd.typeIs PySem.F.entry_dict_get (PySem.F.args_dict_get_3 _ _ _) (meetsH_dict_get_default (tupleKind (mixKind X.prog X.w)) a b hd r) ⟨tupleKind_room_in1 hu, k, xs, key_of I.hok eb, dd, h _ _ (I.tok _) ?_⟩
    rw [l]
    exact (rel.val k).getD rd
end

def tDGet1 (td ty : TE) : TE := fun σ H Q => td σ H fun x H1 => ∃ a, x = .ref a ∧ IsD H1 a ∧ ty σ H1 fun y H2 => ∃ o, DGet H2 a y o ∧ Q (o.getD .non) H2
def tDGet2 (td ty tx : TE) : TE := fun σ H Q => td σ H fun x H1 => ∃ a, x = .ref a ∧ IsD H1 a ∧ ty σ H1 fun y H2 => tx σ H2 fun z H3 => ∃ o, DGet H3 a y o ∧ Q (o.getD z) H3
/-- d.pop(k): there; d.pop(k, x): there or not -/
def tDPop1 (td ty : TE) : TE := fun σ H Q => td σ H fun x H1 => ∃ a, x = .ref a ∧ IsD H1 a ∧ ty σ H1 fun y H2 => ∃ kvs k v, H2 a = some (.dK kvs) ∧ y = kV k ∧ valV kvs k = some v ∧ Q v (upd H2 a (.dK (dropK kvs k)))
def tDPop2 (td ty tx : TE) : TE := fun σ H Q => td σ H fun x H1 => ∃ a, x = .ref a ∧ IsD H1 a ∧ ty σ H1 fun y H2 => tx σ H2 fun z H3 => ∃ kvs k, H3 a = some (.dK kvs) ∧ y = kV k ∧
  (∀ v, valV kvs k = some v → Q v (upd H3 a (.dK (dropK kvs k)))) ∧ (valV kvs k = none → Q z H3)
section
variable {X : Cx} {o e f : Expr} {apos cpos : Pos} {td ty tx : TE}
theorem pe_dget1 (hu : X.A.units + 1 < cLine) (ho : PE X o td) (he : PE X e ty) (m : M1 X o "get" apos e cpos) : PE X (.Call (.Attribute o "get" apos) [e] [] cpos) (tDGet1 td ty) := by
  intro pins s σ H Q I h
  refine wpAny_Call_method m.base m.few m.line PySem.F.plainAttrs_dict PySem.F.slot_dict_get PySem.F.type_dict_get (thn (ho pins s σ H _ I h) fun u s1 ⟨x, H1, I1, rx, a, ex, d, q1⟩ => ?_)
  subst ex
  obtain rfl : u = Value.ref a := rx
  obtain ⟨t1, t2, _⟩ := isD_at I1 d
  refine ⟨t1, t2, ?_⟩
  rw [m.trees]
  refine Calls.callWith_builtin rfl (Calls.evalArgs_plain (Calls.spliced_cons (thn (he pins s1 σ H1 _ I1 q1) fun iv s2 ⟨y, H2, I2, ry, ov, g, q2⟩ => Calls.spliced_nil ?_)))
  exact d_get1 hu I2 g ry fun w' s3 I3 rw' => ⟨_, H2, I3, rw', q2⟩
theorem pe_dget2 (hu : X.A.units + 1 < cLine) (ho : PE X o td) (he : PE X e ty) (hf : PE X f tx) (m : M2 X o "get" apos e f cpos) : PE X (.Call (.Attribute o "get" apos) [e, f] [] cpos) (tDGet2 td ty tx) := by
  intro pins s σ H Q I h
  refine wpAny_Call_method m.base m.few m.line PySem.F.plainAttrs_dict PySem.F.slot_dict_get PySem.F.type_dict_get (thn (ho pins s σ H _ I h) fun u s1 ⟨x, H1, I1, rx, a, ex, d, q1⟩ => ?_)
  subst ex
  obtain rfl : u = Value.ref a := rx
  obtain ⟨t1, t2, _⟩ := isD_at I1 d
  refine ⟨t1, t2, ?_⟩
  rw [m.trees]
  refine Calls.callWith_builtin rfl (Calls.evalArgs_plain (Calls.spliced_cons (thn (he pins s1 σ H1 _ I1 q1) fun iv s2 ⟨y, H2, I2, ry, q2⟩ =>
    Calls.spliced_cons (thn (hf pins s2 σ H2 _ I2 q2) fun fv s3 ⟨z, H3, I3, rz, ov, g, q3⟩ => Calls.spliced_nil ?_))))
  exact d_get2 hu I3 g ry rz fun w' s4 I4 rw' => ⟨_, H3, I4, rw', q3⟩
theorem pe_dpop1 (ho : PE X o td) (he : PE X e ty) (m : M1 X o "pop" apos e cpos) : PE X (.Call (.Attribute o "pop" apos) [e] [] cpos) (tDPop1 td ty) := by
  intro pins s σ H Q I h
  refine wpAny_Call_method m.base m.few m.line PySem.F.plainAttrs_dict PySem.F.slot_dict_pop PySem.F.type_dict_pop (thn (ho pins s σ H _ I h) fun u s1 ⟨x, H1, I1, rx, a, ex, d, q1⟩ => ?_)
  subst ex
  obtain rfl : u = Value.ref a := rx
  obtain ⟨t1, t2, _⟩ := isD_at I1 d
  refine ⟨t1, t2, ?_⟩
  rw [m.trees]
  refine Calls.callWith_builtin rfl (Calls.evalArgs_plain (Calls.spliced_cons (thn (he pins s1 σ H1 _ I1 q1) fun iv s2 ⟨y, H2, I2, ry, kvs, k, v, ea, ey, l, q2⟩ => Calls.spliced_nil ?_)))
  subst ey
  exact d_pop I2 ea ry l (.inl rfl) fun w' s3 I3 rw' => ⟨v, _, I3, rw', q2⟩
theorem pe_dpop2 (ho : PE X o td) (he : PE X e ty) (hf : PE X f tx) (m : M2 X o "pop" apos e f cpos) : PE X (.Call (.Attribute o "pop" apos) [e, f] [] cpos) (tDPop2 td ty tx) := by
  intro pins s σ H Q I h
  refine wpAny_Call_method m.base m.few m.line PySem.F.plainAttrs_dict PySem.F.slot_dict_pop PySem.F.type_dict_pop (thn (ho pins s σ H _ I h) fun u s1 ⟨x, H1, I1, rx, a, ex, d, q1⟩ => ?_)
  subst ex
  obtain rfl : u = Value.ref a := rx
  obtain ⟨t1, t2, _⟩ := isD_at I1 d
  refine ⟨t1, t2, ?_⟩
  rw [m.trees]
  refine Calls.callWith_builtin rfl (Calls.evalArgs_plain (Calls.spliced_cons (thn (he pins s1 σ H1 _ I1 q1) fun iv s2 ⟨y, H2, I2, ry, q2⟩ =>
    Calls.spliced_cons (thn (hf pins s2 σ H2 _ I2 q2) fun fv s3 ⟨z, H3, I3, rz, kvs, k, ea, ey, q3, q4⟩ => Calls.spliced_nil ?_))))
  subst ey
  cases l : valV kvs k with
  | some v => exact d_pop I3 ea ry l (.inr ⟨fv, rfl⟩) fun w' s4 I4 rw' => ⟨v, _, I4, rw', q3 v l⟩
  | none => exact d_popD I3 ea ry l fun s4 I4 => ⟨z, H3, I4, rz, q4 l⟩
end

/-! ### dict(d): a copy -/
section
variable {X : Cx} {pins : List (Addr × Obj)} {σ : St} {H : Hp} {s : Shared} {a : Addr} {kvs : List (Key × V)} {A : Around} {E : Value → Shared → Prop}
theorem d_copyOf {Q : Value → Shared → Prop} (I : Inv X pins σ H s) (e : Rd H a (.dK kvs)) (h : ∀ p s', H p = none → Inv X pins σ (upd H p (.dK kvs)) s' → Q (.ref p) s') : wpAny (model X.prog X.w) A (call (.type "dict") [.ref a]) Q E s := by
  obtain ⟨z, hd, vs, rel, dd⟩ := dk_rd I.hok e
  refine kt_call_dict hd dd (by rw [← rel.length]; exact z) fun h' dd' hs => ?_
  refine h _ _ (I.hok.fresh (Nat.le_refl _)) (I.laid (a := s.heap.objs.size) (o := .dK kvs) (t' := s.toks) (fun b q hq => ?_) (Nat.le_refl _) (dk_new z (beq_eq_false_iff_ne.mpr (Ne.symm (Nat.ne_of_lt I.big))) rel dd'))
  exact (hs.2 b (Nat.ne_of_lt (Heap.lt_size hq))).trans (Heap.get?_push_of_some _ hq)
end


section
variable {X : Cx} {pins : List (Addr × Obj)} {σ : St} {H : Hp} {s : Shared} {a : Addr} {y : V} {u : Value} {A : Around} {E : Value → Shared → Prop}
/-- d[y], not there: a KeyError -/
theorem d_missing {Q : Value → Shared → Prop} (hu : A.units + 1 < cLine) (hh : A.handled = none) (I : Inv X pins σ H s) (g : DGet H a y none) (ry : RelV y u)
    (h : ∀ h' e t', Heap.NewExc s.heap h' e "KeyError" → E (.ref e) { s with heap := h', toks := t' }) : wpAny (model X.prog X.w) A (getItem (.ref a) u) Q E s := by
  rcases g with ⟨kvs, k, e, ey, l⟩ | ⟨kvs, k, b, e, ey, eb, l⟩
  · subst ey
    obtain ⟨z, hd, vs, rel, dd⟩ := dk_rd I.hok e
    have hn : valueAt vs k = none := RelO.none_of (by rw [l]; exact rel.val k)
    exact wpAny_getItem_missing_of (kV_is ry) hd hh dd.mapOf hn fun h' ex ne => h h' ex _ ne
  · subst ey
    cases (show u = Value.ref b from ry)
    obtain ⟨z, hd, xs, rel, dd⟩ := dt_rd I.hok e
    have hn : (atKey xs k).map (·.2) = none := RelO.none_of (by rw [l]; exact rel.val k)
    exact wpAny_getItem_missing_heap (tupleKind_room_in1 hu) (key_of I.hok eb) hd hh dd (Option.map_eq_none_iff.mp hn) fun h' ex ne => h h' ex _ ne
end
end L2

namespace HT
open PySem PyProof.Rows

/-- t < u of tuples of ints -/
def lexLt : List Int → List Int → Bool
  | [], [] => false
  | [], _ :: _ => true
  | _ :: _, [] => false
  | x :: xs, y :: ys => if x = y then lexLt xs ys else decide (x < y)
theorem lexLt_cons (x y : Int) (xs ys : List Int) : lexLt (x :: xs) (y :: ys) = if x = y then lexLt xs ys else decide (x < y) := rfl
theorem lexLt_nil_nil : lexLt [] [] = false := rfl
theorem lexLt_nil_cons (y : Int) (ys : List Int) : lexLt [] (y :: ys) = true := rfl
theorem lexLt_cons_nil (x : Int) (xs : List Int) : lexLt (x :: xs) [] = false := rfl

theorem eqAt_int (A : Around) (s : Shared) (a : Int) (t : Tok) (c : Int) (u : Tok) : ∃ e, SeqAt.EqAt A s (.int a t) (.int c u) e ∧ (e = true ↔ a = c) :=
  ⟨(a == c), SeqAt.EqAt.int_int a t c u, by simp⟩
theorem rcLt_int (A : Around) (s : Shared) (a : Int) (t : Tok) (c : Int) (u : Tok) (prog : Program) (w : World) (E : Value → Shared → Prop) (Q : Value → Shared → Prop) (h : Q (.bool (decide (a < c))) s) :
    wpAny (model prog w) A (richCompare .Lt (.int a t) (.int c u)) Q E s :=
  (PyProof.Rows.lt_int h : wpAny (model prog w) A (compareOp .Lt (.int a t) (.int c u)) Q E s)

section
open PySem.SeqAt
open PySem.AutoSeq1 (wpAny_loadPart')
open PySem.MeetsSeq PySem.MeetsSeq2 PySem.MeetsSeq3

theorem tuple_lt_ints (l b : Addr) (items items2 : Array Value) (n n2 : Nat) (dd dd2 : Option Addr) (sl sl2 : Array (Option Value)) (ns ms : List Int) (hi : IntsAre items.toList ns) (hj : IntsAre items2.toList ms) :
    Meets (Builtin.«tuple.__lt__» ⟨[.ref l, .ref b], []⟩)
      (fun _ R s => s.heap.get? l = some { cls := .type "tuple", dict := dd, data := .seq items n, slots := sl } ∧ s.heap.get? b = some { cls := .type "tuple", dict := dd2, data := .seq items2 n2, slots := sl2 } ∧
        R (.ok (.ret (.bool (lexLt ns ms)))) s) :=
  .of_wp fun prog w A R s h => by
    obtain ⟨hp, g, d, tk, os⟩ := s; obtain ⟨hl, hb, h⟩ := h
    have f2 := AutoSeq1.sub_tuple_tuple
    have z1 : items.size = ns.length := by rw [← hi.length]; simp
    have z2 : items2.size = ms.length := by rw [← hj.length]; simp
    wp_walk using wpAny_loadPart' hl, wpAny_loadPart' hb, wpAny_forIn_list _ (fun rest b s' => b.1 = none ∧ s' = ⟨hp, g, d, tk, os⟩ ∧ ∃ (vs ws : List Value) (ns' ms' : List Int), rest = vs.zip ws ∧
      IntsAre vs ns' ∧ IntsAre ws ms' ∧ ns'.length + items2.size = ms'.length + items.size ∧ R (.ok (.ret (.bool (lexLt ns' ms')))) ⟨hp, g, d, tk, os⟩) _
    case turn =>
      rintro ⟨y, x⟩ rest b s' ⟨hb', rfl, vs, ws, ns', ms', hz, hvi, hwi, hlen, hR⟩
      cases hvi with
      | nil => rw [List.zip_nil_left] at hz; cases hz
      | cons a t hvi' =>
        cases hwi with
        | nil => rw [List.zip_nil_right] at hz; cases hz
        | cons c u hwi' =>
          rw [List.zip_cons_cons] at hz
          injection hz with hyx hrest
          injection hyx with hy hx
          subst hy hx
          rw [lexLt_cons] at hR
          simp only [List.length_cons] at hlen
          obtain ⟨e, he, hiff⟩ := eqAt_int A.in1 ⟨hp, g, d, tk, os⟩ a t c u
          refine wpAny_bind (he prog w _ _ ?_)
          cases e with
          | true =>
            rw [if_pos (hiff.mp rfl)] at hR
            wp_walk
            exact ⟨rfl, rfl, _, _, _, _, hrest, hvi', hwi', by omega, hR⟩
          | false =>
            rw [if_neg (fun q => absurd (hiff.mpr q) Bool.false_ne_true)] at hR
            have hri := rcLt_int A.in1 ⟨hp, g, d, tk, os⟩ a t c u prog w
            wp_walk using hri
            exact ⟨_, rfl, by simpa using hR⟩
    case fin =>
      rintro ⟨b1, b2⟩ s' ⟨hb', rfl, vs, ws, ns', ms', hz, hvi, hwi, hlen, hR⟩
      simp only at hb'
      subst hb'
      have hv : lexLt ns' ms' = decide (items.size < items2.size) := by
        cases hvi with
        | nil =>
          cases hwi with
          | nil =>
            simp only [List.length_nil] at hlen
            rw [lexLt_nil_nil]
            exact (decide_eq_false (by omega)).symm
          | cons c u hw =>
            simp only [List.length_nil, List.length_cons] at hlen
            rw [lexLt_nil_cons]
            exact (decide_eq_true (by omega)).symm
        | cons a t hv =>
          cases hwi with
          | nil =>
            simp only [List.length_nil, List.length_cons] at hlen
            rw [lexLt_cons_nil]
            exact (decide_eq_false (by omega)).symm
          | cons c u hw =>
            rw [List.zip_cons_cons] at hz
            cases hz
      rw [hv] at hR
      wp_walk
      exact ⟨_, rfl, by simpa [Builtin.Tuple.tupleCompareSizes] using hR⟩
    case h =>
      exact ⟨rfl, rfl, items.toList, items2.toList, ns, ms, rfl, hi, hj, by omega, h⟩
end

section
variable {prog : Program} {w : World} {A : Around} {E : Value → Shared → Prop} {s : Shared}

theorem lt_tupInts {l b : Addr} {items items2 : Array Value} {ns ms : List Int} {Q : Value → Shared → Prop} (hl : IsTup s.heap l items) (hb : IsTup s.heap b items2) (hi : IntsAre items.toList ns) (hj : IntsAre items2.toList ms)
    (hu : A.units < cLine) (h : Q (.bool (lexLt ns ms)) s) : wpAny (model prog w) A (compareOp .Lt (.ref l) (.ref b)) Q E s := by
  obtain ⟨⟨cls, dd, data, sl⟩, ho, hc, n, hd⟩ := id hl
  obtain ⟨⟨cls2, dd2, data2, sl2⟩, ho2, hc2, n2, hd2⟩ := id hb
  simp only at hc hd hc2 hd2
  subst hc hd hc2 hd2
  exact richCompare_meets_room (op := .Lt) ⟨_, ho, rfl⟩ ⟨_, ho2, rfl⟩ PySem.F.slot_tuple_lt PySem.F.entry_tuple_lt (PySem.F.args_tuple_lt_2 _ _) (tuple_lt_ints l b items items2 n n2 dd dd2 sl sl2 ns ms hi hj)
    ⟨ho, ho2, show Value.bool (lexLt ns ms) ≠ Value.notImplemented ∧ Q (.bool (lexLt ns ms)) s from ⟨(fun x => nomatch x), h⟩⟩ hu

/-- t + u, t not empty -/
theorem cat_tup {t b : Addr} {vs ws : List Value} {Q : Value → Shared → Prop} (ht : IsTup s.heap t vs.toArray) (hb : IsTup s.heap b ws.toArray) (hv : vs ≠ [])
    (h1 : ws = [] → Q (.ref t) s) (h2 : ws ≠ [] → Q (.ref s.heap.objs.size) { s with heap := s.heap.push { cls := .type "tuple", data := .seq (vs ++ ws).toArray } })
    (hsz : vs.length + ws.length ≤ sizeLine) : wpAny (model prog w) A (binaryOp .Add (.ref t) (.ref b)) Q E s := by
  obtain ⟨⟨cls, dd, data, sl⟩, ho, hc, n, hd⟩ := id ht
  obtain ⟨⟨cls2, dd2, data2, sl2⟩, ho2, hc2, n2, hd2⟩ := id hb
  simp only at hc hd hc2 hd2
  subst hc hd hc2 hd2
  have e : vs.toArray ++ ws.toArray = (vs ++ ws).toArray := by simp
  by_cases hw : ws = []
  · exact concat_meets ⟨_, ho, rfl⟩ ⟨_, ho2, rfl⟩ noFill_tuple_add seq_tuple_add PySem.F.slot_tuple_add PySem.F.entry_tuple_add (PySem.F.args_tuple_add_2 _ _)
      (tuple_addW1 t b vs.toArray ws.toArray n n2 dd dd2 sl sl2 (by simpa using hv) (by simp [hw])) ⟨ho, ho2, h1 hw⟩
  · refine concat_meets ⟨_, ho, rfl⟩ ⟨_, ho2, rfl⟩ noFill_tuple_add seq_tuple_add PySem.F.slot_tuple_add PySem.F.entry_tuple_add (PySem.F.args_tuple_add_2 _ _)
      (tuple_addW2 t b vs.toArray ws.toArray n n2 dd dd2 sl sl2 (by simpa using hv) (by simpa using hw) (by rw [List.size_toArray, List.size_toArray]; exact hsz)) ⟨ho, ho2, ?_⟩
    rw [e]
    exact h2 hw

/-! ### t[a:b], not the whole -/
/-- a slice's bound as a place among n (d where it is left out) -/
def sIx (n d : Nat) : Option Int → Nat
  | none => d
  | some v => if v < 0 then (v + (n : Int)).toNat else min v.toNat n
theorem sIx_none (n d : Nat) : sIx n d none = d := rfl
theorem sIx_nat (n d k : Nat) : sIx n d (some (k : Int)) = min k n := by
  show (if (k : Int) < 0 then ((k : Int) + (n : Int)).toNat else min (k : Int).toNat n) = min k n
  rw [if_neg (by omega), Int.toNat_natCast]
theorem sIx_le (n d : Nat) (hd : d ≤ n) (o : Option Int) : sIx n d o ≤ n := by
  cases o with
  | none => exact hd
  | some v =>
    show (if v < 0 then (v + (n : Int)).toNat else min v.toNat n) ≤ n
    by_cases hv : v < 0
    · rw [if_pos hv]; omega
    · rw [if_neg hv]; exact Nat.min_le_right _ _
theorem clip_eq (v : Int) (n d : Nat) : (if v < 0 then max (v + (n : Int)) 0 else min v (n : Int)) = ((sIx n d (some v) : Nat) : Int) := by
  show (if v < 0 then max (v + (n : Int)) 0 else min v (n : Int)) = (((if v < 0 then (v + (n : Int)).toNat else min v.toNat n) : Nat) : Int)
  by_cases hv : v < 0
  · simp only [if_pos hv]; omega
  · simp only [if_neg hv]; omega
theorem adjust_gen (lo hi : Option Int) (n : Nat) : Builtin.Slice.sliceAdjust lo hi 1 (n : Int) = (((sIx n 0 lo : Nat) : Int), ((sIx n n hi : Nat) : Int)) := by
  have h1 : ¬ ((1 : Int) < 0) := by omega
  unfold Builtin.Slice.sliceAdjust
  simp only [h1, if_false]
  refine Prod.ext ?_ ?_
  · cases lo with
    | none => rfl
    | some v => exact clip_eq v n 0
  · cases hi with
    | none => rfl
    | some v => exact clip_eq v n n
theorem places_gen (i j : Nat) : Builtin.Slice.slicePlaces (i : Int) (j : Int) 1 = j - i := by
  unfold Builtin.Slice.slicePlaces
  have h1 : (1 : Int) > 0 := by omega
  simp only [h1, if_true, Int.ediv_one]
  split <;> omega
theorem slicePart_ {v : Value} {o : Option Int} {Q : Option Int → Shared → Prop} (p : IsPart v o) (h : Q o s) : wpAny (model prog w) A (Builtin.Slice.slicePartIndex v) Q E s := by
  cases p with
  | none => exact slicePart_none h
  | int i t => exact slicePart_int h
theorem sliceApplied_gen {sl : Addr} {vl vu : Value} {lo hi : Option Int} {n : Nat} {Q : Int × Int × Nat → Shared → Prop} (hs : s.heap.IsSliceOf sl vl vu .none) (pl : IsPart vl lo) (pu : IsPart vu hi)
    (h : Q (((sIx n 0 lo : Nat) : Int), 1, sIx n n hi - sIx n 0 lo) s) : wpAny (model prog w) A (Builtin.Slice.sliceApplied (.ref sl) (pure (n : Int))) Q E s := by
  obtain ⟨os, hos, hcs, hds⟩ := id hs
  unfold Builtin.Slice.sliceApplied Builtin.Slice.sliceFields
  refine wpAny_bind (wpAny_bind (wpAny_field hos hds (x := vl) rfl (wpAny_bind (wpAny_field hos hds (x := vu) rfl (wpAny_bind (wpAny_field hos hds (x := .none) rfl (wpAny_pure ?_)))))))
  refine wpAny_bind (slicePart_none ?_)
  show wpAny _ _ (if ((1 : Int) == 0) = true then _ else _) _ _ s
  rw [if_neg (by decide)]
  refine wpAny_bind (slicePart_ pl (wpAny_bind (slicePart_ pu (wpAny_bind (wpAny_pure ?_)))))
  show wpAny _ _ (match Builtin.Slice.sliceAdjust lo hi 1 (n : Int) with | (lo, hi) => pure (lo, (1 : Int), Builtin.Slice.slicePlaces lo hi 1)) _ _ s
  rw [adjust_gen lo hi n]
  show wpAny _ _ (pure (((sIx n 0 lo : Nat) : Int), (1 : Int), Builtin.Slice.slicePlaces ((sIx n 0 lo : Nat) : Int) ((sIx n n hi : Nat) : Int) 1)) _ _ s
  rw [places_gen]
  exact wpAny_pure h
theorem pick_gen (xs : Array Value) (i k : Nat) : ((List.range k).filterMap fun (m : Nat) => xs[((i : Int) + (m : Int) * 1).toNat]?).toArray = ((xs.toList.drop i).take k).toArray := by
  have e : (fun (m : Nat) => xs[((i : Int) + (m : Int) * 1).toNat]?) = fun m => xs[i + m]? := by
    funext m
    have : ((i : Int) + (m : Int) * 1).toNat = i + m := by omega
    rw [this]
  rw [e]
  have := pick_run xs i k
  rw [List.filterMap_map] at this
  have e2 : ((fun x => xs[x]?) ∘ fun x => i + x) = fun m => xs[i + m]? := rfl
  rw [e2] at this
  rw [this]

theorem getItem_tuple_cut {t sl : Addr} {items : Array Value} {vl vu : Value} {lo hi : Option Int} {Q : Value → Shared → Prop} (ht : IsTup s.heap t items) (hs : s.heap.IsSliceOf sl vl vu .none) (pl : IsPart vl lo) (pu : IsPart vu hi)
    (hw : ¬ (sIx items.size 0 lo = 0 ∧ sIx items.size items.size hi = items.size))
    (h : Q (.ref s.heap.objs.size) { s with heap := s.heap.push { cls := .type "tuple", data := .seq ((items.toList.drop (sIx items.size 0 lo)).take (sIx items.size items.size hi - sIx items.size 0 lo)).toArray } })
    (hsz : items.size ≤ sizeLine) : wpAny (model prog w) A (getItem (.ref t) (.ref sl)) Q E s := by
  have htake : sizeOk (.seq ((items.toList.drop (sIx items.size 0 lo)).take (sIx items.size items.size hi - sIx items.size 0 lo)).toArray) := by
    show ((items.toList.drop (sIx items.size 0 lo)).take (sIx items.size items.size hi - sIx items.size 0 lo)).toArray.size ≤ sizeLine
    rw [List.size_toArray, List.length_take, List.length_drop, Array.length_toList]
    omega
  have hj : sIx items.size items.size hi ≤ items.size := sIx_le _ _ (Nat.le_refl _) hi
  obtain ⟨os, hos, hcs, hds⟩ := id hs
  have hTs : s.TypeIs (.ref sl) "slice" := ⟨os, hos, hcs⟩
  unfold getItem
  try with_reducible refine wpAny_holding ?_
  first | refine wpAny_bind (wpAny_pure ?_) | skip
  refine wpAny_bind (wpAny_sequenceKey ht.typeIs (by decide) ?_)
  refine wpAny_bind (wpAny_callSpecial?_slot (name := Str.ofString "__getitem__") ht.typeIs PyProof.Rows.slot_tuple_getitem
    (wpAny_call_entry PyProof.Rows.slot_tuple_getitem ht.typeIs entry_tuple_getitem ?_ (args_tuple_getitem _ _)))
  show wpAny _ _ (Builtin.Tuple.tupleItemsOf (.ref t) >>= _) _ _ s
  refine wpAny_bind (tupleItemsOf_ ht ?_)
  refine wpAny_bind (wpAny_typeOf hTs ?_)
  rw [if_pos (by decide)]
  refine wpAny_bind (sliceApplied_gen hs pl pu ?_)
  have hno : ¬ ((((sIx items.size 0 lo : Nat) : Int) == 0 && (1 : Int) == 1 && (sIx items.size items.size hi - sIx items.size 0 lo) == items.size) = true) := by
    intro q
    rw [Bool.and_eq_true, Bool.and_eq_true] at q
    have q1 : ((sIx items.size 0 lo : Nat) : Int) = 0 := eq_of_beq q.1.1
    have q2 : sIx items.size items.size hi - sIx items.size 0 lo = items.size := eq_of_beq q.2
    exact hw ⟨by omega, by omega⟩
  show wpAny _ _ (if (((sIx items.size 0 lo : Nat) : Int) == 0 && (1 : Int) == 1 && (sIx items.size items.size hi - sIx items.size 0 lo) == items.size) = true then _ else _) _ _ s
  rw [if_neg hno, pick_gen]
  first
    | exact wpAny_bind (m := Builtin.Tuple.tupleExact _) (wpAny_newObj_type (wpAny_pure ⟨_, rfl, wpAny_pure h⟩) htake)
    | exact wpAny_bind (m := Builtin.Tuple.tupleExact _) (wpAny_newObj_type (wpAny_bind (wpAny_pure (wpAny_pure ⟨_, rfl, wpAny_pure h⟩))) htake)
    | exact wpAny_bind (wpAny_bind (m := Builtin.Tuple.tupleExact _) (wpAny_newObj_type (wpAny_pure (wpAny_pure ⟨_, rfl, wpAny_pure h⟩)) htake))
    | exact wpAny_bind (wpAny_bind (m := Builtin.Tuple.tupleExact _) (wpAny_newObj_type (wpAny_pure ⟨_, rfl, wpAny_pure h⟩) htake))
end
end HT

namespace L2
open PySem PySem.Spec PyProof.Rows

/-! ### the parts of a slice -/
abbrev TO := St → Hp → (Option Int → Hp → Prop) → Prop
/-- a slice's part (left out, or an int) -/
def PO (X : Cx) (e : Option Expr) (t : TO) : Prop :=
  ∀ (pins : List (Addr × Obj)) (s : Shared) (σ : St) (H : Hp) (Q : Option Int → Hp → Prop), Inv X pins σ H s → t σ H Q →
    wpAny (model X.prog X.w) X.A (evalPart e X.env) (fun u s' => ∃ o H', Inv X pins σ H' s' ∧ IsPart u o ∧ Q o H') X.xe s
def tNoPart : TO := fun _ H Q => Q none H
def tPart (t : TE) : TO := fun σ H Q => t σ H fun x H1 => ∃ i, x = .int i ∧ Q (some i) H1

theorem intsAre_of {ns : List Int} : ∀ {us : List Value}, Vals (ns.map V.int) us → IntsAre us ns := by
  induction ns with
  | nil => intro us r; rw [List.map_nil] at r; cases r; exact .nil
  | cons n ns ih =>
    intro us r
    rw [List.map_cons] at r
    cases r with
    | cons r1 r2 =>
      obtain ⟨t, e⟩ := r1
      subst e
      exact .cons n t (ih r2)

section
variable {X : Cx} {e : Expr} {te : TE} {lo hi : Option Expr} {tl th : TO} {pos p2 : Pos}

theorem po_none : PO X none tNoPart := by
  intro pins s σ H Q I h
  rw [evalPart_none]
  exact wpAny_pure ⟨none, H, I, .none, h⟩
theorem po_some (h : PE X e te) : PO X (some e) (tPart te) := by
  intro pins s σ H Q I hw
  rw [evalPart_some]
  refine thn (h pins s σ H _ I hw) fun u s1 ⟨x, H1, I1, r1, q1⟩ => ?_
  obtain ⟨i, rfl, q⟩ := q1
  obtain ⟨t, rfl⟩ := r1
  exact ⟨some i, H1, I1, .int i t, q⟩

/-- what a slice of a value is, by values: the slice object stands at sl -/
def SlR (X : Cx) (r : V → Option Int → Option Int → Hp → VK → Prop) : Prop :=
  ∀ (pins : List (Addr × Obj)) (s : Shared) (σ : St) (H : Hp) (x : V) (v vl vu : Value) (lo hi : Option Int) (sl : Addr) (Q : VK), Inv X pins σ H s → RelV x v → s.heap.IsSliceOf sl vl vu .none → IsPart vl lo → IsPart vu hi → r x lo hi H Q →
    ∃ T id, typeLookup (.type T) "__getitem__" = pure (some (.builtin id)) ∧ s.TypeIs v T ∧ wpAny (model X.prog X.w) X.A (getItem v (.ref sl)) (EP X pins σ Q) X.xe s
theorem SlR.or {r r' : V → Option Int → Option Int → Hp → VK → Prop} (h : SlR X r) (h' : SlR X r') : SlR X (fun x lo hi H Q => r x lo hi H Q ∨ r' x lo hi H Q) := by
  intro pins s σ H x v vl vu lo hi sl Q I rx hs pl pu q
  rcases q with q | q
  · exact h pins s σ H x v vl vu lo hi sl Q I rx hs pl pu q
  · exact h' pins s σ H x v vl vu lo hi sl Q I rx hs pl pu q
def tSl (r : V → Option Int → Option Int → Hp → VK → Prop) (te : TE) (tl th : TO) : TE := fun σ H Q => te σ H fun x H1 => tl σ H1 fun l H2 => th σ H2 fun u H3 => r x l u H3 Q
/-- a[lo:hi], any a -/
theorem pe_slice {r : V → Option Int → Option Int → Hp → VK → Prop} (hr : SlR X r) (he : PE X e te) (hl : PO X lo tl) (hu : PO X hi th) : PE X (.Subscript e (.Slice lo hi none p2) pos) (tSl r te tl th) := by
  intro pins s σ H Q I h
  refine Subscript_ (thn (he pins s σ H _ I h) fun v s1 ⟨x, H1, I1, r1, q1⟩ => ?_)
  refine wpAny_Slice (thn (hl pins s1 σ H1 _ I1 q1) fun vl s2 ⟨l, H2, I2, pl, q2⟩ => thn (hu pins s2 σ H2 _ I2 q2) fun vu s3 ⟨u, H3, I3, pu, q3⟩ => ?_)
  rw [evalPart_none]
  refine wpAny_pure ?_
  have I4 : Inv X pins σ H3 { s3 with heap := s3.heap.push { cls := .type "slice", data := .fields #[vl, vu, .none] } } := I3.kept (t' := s3.toks) fun b ob q => Heap.get?_push_of_some _ q
  obtain ⟨T, id, hT, ht, hg⟩ := hr pins { s3 with heap := s3.heap.push { cls := .type "slice", data := .fields #[vl, vu, .none] } } σ H3 x v vl vu l u s3.heap.objs.size Q I4 r1 (Heap.IsSliceOf.new ..) pl pu q3
  show wpAny (model X.prog X.w) X.A (subscriptTail e (.Slice lo hi none p2) v (.ref s3.heap.objs.size)) (EP X pins σ Q) X.xe { s3 with heap := s3.heap.push { cls := .type "slice", data := .fields #[vl, vu, .none] } }
  exact tail_any (ops := [.ref s3.heap.objs.size, v]) ht hT hg (by with_unfolding_all rfl)

/-- the items of xs[lo:hi] -/
def cutV (xs : List V) (lo hi : Option Int) : List V := (xs.drop (HT.sIx xs.length 0 lo)).take (HT.sIx xs.length xs.length hi - HT.sIx xs.length 0 lo)
theorem cutV_length (xs : List V) (lo hi : Option Int) : (cutV xs lo hi).length ≤ xs.length := by
  unfold cutV
  rw [List.length_take, List.length_drop]
  omega
/-- t[lo:hi], not the whole of it (the whole would be t itself) -/
def rSlT (K : PySem.W.Frag) : V → Option Int → Option Int → Hp → VK → Prop := fun x lo hi H Q => ∃ a xs, x = .ref a ∧ SqT K H a xs ∧
  ¬ (HT.sIx xs.length 0 lo = 0 ∧ HT.sIx xs.length xs.length hi = xs.length) ∧ ∀ p, H p = none → Q (.ref p) (upd H p (.tup (cutV xs lo hi)))
theorem sl_tup : SlR X (rSlT X.K) := by
  intro pins s σ H x v vl vu lo hi sl Q I rx hs pl pu h
  obtain ⟨a, xs, rfl, hx, hw, q⟩ := h
  cases rx
  obtain ⟨its, r, ht, hz⟩ := I.tuple hx
  have hlen : its.toArray.size = xs.length := by rw [List.size_toArray]; exact r.length.symm
  refine ⟨"tuple", _, PyProof.Rows.slot_tuple_getitem.lookup, ht.typeIs, ?_⟩
  refine HT.getItem_tuple_cut ht hs pl pu (by rw [hlen]; exact hw) ?_ (by rw [hlen]; exact hz)
  rw [hlen]
  refine ⟨.ref s.heap.objs.size, _, I.laid (t' := s.toks) (o := .tup (cutV xs lo hi)) (fun b ob q => Heap.get?_push_of_some _ q) (Nat.le_refl _) ?_, rfl, q _ (I.hok.fresh (Nat.le_refl _))⟩
  exact ⟨Nat.le_trans (cutV_length xs lo hi) hz, _, (r.drop (HT.sIx xs.length 0 lo)).take (HT.sIx xs.length xs.length hi - HT.sIx xs.length 0 lo), IsTup.new _ _⟩

/-! ### t < u, t + u -/
def rLtT (K : PySem.W.Frag) : R2 := fun x y H Q => ∃ a b ns ms, x = .ref a ∧ y = .ref b ∧ SqT K H a (ns.map V.int) ∧ SqT K H b (ms.map V.int) ∧ Q (.bl (HT.lexLt ns ms)) H
theorem op_ltT (hu : X.A.units < cLine) : OpR X (compareOp .Lt) (rLtT X.K) := by
  intro pins s σ H x y v u Q I rx ry h
  obtain ⟨a, b, ns, ms, rfl, rfl, ha, hb, q⟩ := h
  cases rx
  cases ry
  obtain ⟨its, r1, p1, _⟩ := I.tuple ha
  obtain ⟨its2, r2, p2, _⟩ := I.tuple hb
  have i1 : IntsAre its.toArray.toList ns := intsAre_of r1
  have i2 : IntsAre its2.toArray.toList ms := intsAre_of r2
  exact HT.lt_tupInts p1 p2 i1 i2 hu ⟨.bl (HT.lexLt ns ms), H, I, rfl, q⟩
/-- t + u, t not empty: u empty gives t itself -/
def rCatT (K : PySem.W.Frag) : R2 := fun x y H Q => ∃ a b xs ys, x = .ref a ∧ y = .ref b ∧ SqT K H a xs ∧ SqT K H b ys ∧ xs ≠ [] ∧ xs.length + ys.length ≤ sizeLine ∧
  (ys = [] → Q (.ref a) H) ∧ (ys ≠ [] → ∀ p, H p = none → Q (.ref p) (upd H p (.tup (xs ++ ys))))
theorem Vals.nil_iff {xs : List V} {us : List Value} (r : Vals xs us) : us = [] ↔ xs = [] := by
  cases r with
  | nil => simp
  | cons _ _ => simp
theorem op_catT : OpR X (binaryOp .Add) (rCatT X.K) := by
  intro pins s σ H x y v u Q I rx ry h
  obtain ⟨a, b, xs, ys, rfl, rfl, ha, hb, hx, hz, q1, q2⟩ := h
  cases rx
  cases ry
  obtain ⟨its, r1, p1, _⟩ := I.tuple ha
  obtain ⟨its2, r2, p2, _⟩ := I.tuple hb
  refine HT.cat_tup p1 p2 (fun z => hx (r1.nil_iff.mp z)) (fun z => ⟨.ref a, H, I, rfl, q1 (r2.nil_iff.mp z)⟩) (fun z => ?_) (by rw [← r1.length, ← r2.length]; exact hz)
  refine ⟨.ref s.heap.objs.size, _, I.laid (t' := s.toks) (o := .tup (xs ++ ys)) (fun b ob q => Heap.get?_push_of_some _ q) (Nat.le_refl _) ?_, rfl, q2 (fun w => z (r2.nil_iff.mpr w)) _ (I.hok.fresh (Nat.le_refl _))⟩
  exact ⟨by rw [List.length_append]; exact hz, _, r1.append r2, IsTup.new _ _⟩
/-- tuple(t) -/
theorem call_tupleT : CallR X (.type "tuple") (fun xs H Q => ∃ a ys, xs = [.ref a] ∧ SqT X.K H a ys ∧ Q (.ref a) H) := by
  intro pins s σ H xs us Q I r h
  obtain ⟨a, ys, rfl, ha, q⟩ := h
  obtain ⟨u, rfl, ru⟩ := vals1 r
  cases ru
  obtain ⟨its, _, p1, _⟩ := I.tuple ha
  exact call_tuple_same (items := its.toArray) p1 ⟨.ref a, H, I, rfl, q⟩
end
end L2

namespace L2
open PySem PySem.Spec PyProof.Rows

/-! ### places -/
/-- the place that an index of any sign means -/
def ixN (n : Nat) (i : Int) : Option Nat := if 0 ≤ i then (if i < n then some i.toNat else none) else if -(n : Int) ≤ i then some (i + n).toNat else none
def atI {α : Type} (xs : List α) (i : Int) : Option α := (ixN xs.length i).bind fun j => xs[j]?
theorem ixN_seq {n : Nat} {i : Int} {j : Nat} (h : ixN n i = some j) : seqIndex? i n = some j ∧ j < n ∧ -(n : Int) ≤ i ∧ i < n := by
  unfold ixN at h
  by_cases h0 : 0 ≤ i
  · rw [if_pos h0] at h
    by_cases h1 : i < n
    · rw [if_pos h1] at h
      have e : i.toNat = j := Option.some.inj h
      exact ⟨by rw [seqIndex_of h0 h1, e], by omega, by omega, h1⟩
    · rw [if_neg h1] at h; cases h
  · rw [if_neg h0] at h
    by_cases h1 : -(n : Int) ≤ i
    · rw [if_pos h1] at h
      have e : (i + n).toNat = j := Option.some.inj h
      exact ⟨by rw [seqIndex_neg (by omega) h1, e], by omega, h1, by omega⟩
    · rw [if_neg h1] at h; cases h
theorem atI_get {α : Type} {xs : List α} {i : Int} {v : α} (h : atI xs i = some v) : ∃ j, seqIndex? i xs.length = some j ∧ xs[j]? = some v ∧ j < xs.length ∧ -(xs.length : Int) ≤ i ∧ i < xs.length := by
  unfold atI at h
  cases e : ixN xs.length i with
  | none => rw [e] at h; cases h
  | some j =>
    rw [e] at h
    obtain ⟨h1, h2, h3, h4⟩ := ixN_seq e
    exact ⟨j, h1, h, h2, h3, h4⟩
theorem atI_nat {α : Type} {xs : List α} {j : Nat} {v : α} (h : xs[j]? = some v) : atI xs (j : Int) = some v := by
  have hj : j < xs.length := (List.getElem?_eq_some_iff.mp h).1
  have e : ixN xs.length (j : Int) = some j := by
    unfold ixN
    rw [if_pos (by omega), if_pos (by omega)]; simp
  unfold atI; rw [e]; exact h
theorem atI_last {α : Type} (xs : List α) (v : α) : atI (xs ++ [v]) (-1) = some v := by
  have hl : (xs ++ [v]).length = xs.length + 1 := by simp
  have e : ixN (xs ++ [v]).length (-1) = some xs.length := by
    unfold ixN
    rw [hl, if_neg (by decide), if_pos (by omega)]
    congr 1
    omega
  unfold atI
  rw [e]
  show (xs ++ [v])[xs.length]? = some v
  simp

/-! ### what may be subscripted -/
/-- what stands as an index of a plain subscript -/
def PlainIx (b : Expr) : Prop := ∀ o i, subscripted b false o i = operate [o, i] (getItem o i)
/-- a subscript by values -/
def IxR (X : Cx) (r : R2) : Prop :=
  ∀ (value slice : Expr) (pins : List (Addr × Obj)) (s : Shared) (σ : St) (H : Hp) (x y : V) (v u : Value) (Q : VK), Inv X pins σ H s → RelV x v → RelV y u → r x y H Q →
    subscripted slice false v u = operate [v, u] (getItem v u) → wpAny (model X.prog X.w) X.A (subscriptTail value slice v u) (EP X pins σ Q) X.xe s
/-- a call of a builtin's method by values: the receiver, the arguments -/
def MtR (X : Cx) (id : String) (r : V → List V → Hp → VK → Prop) : Prop :=
  ∀ (pins : List (Addr × Obj)) (s : Shared) (σ : St) (H : Hp) (x : V) (xs : List V) (v : Value) (us : List Value) (Q : VK), Inv X pins σ H s → RelV x v → Vals xs us → r x xs H Q →
    wpAny (model X.prog X.w) X.A (call (.builtin id) (v :: us)) (EP X pins σ Q) X.xe s
section
variable {X : Cx} {a b : Expr} {ta tb : TE} {pos : Pos}
theorem IxR.or {r r' : R2} (h : IxR X r) (h' : IxR X r') : IxR X (fun x y H Q => r x y H Q ∨ r' x y H Q) := by
  intro value slice pins s σ H x y v u Q I rx ry q hs
  rcases q with q | q
  · exact h value slice pins s σ H x y v u Q I rx ry q hs
  · exact h' value slice pins s σ H x y v u Q I rx ry q hs
theorem MtR.or {id : String} {r r' : V → List V → Hp → VK → Prop} (h : MtR X id r) (h' : MtR X id r') : MtR X id (fun x xs H Q => r x xs H Q ∨ r' x xs H Q) := by
  intro pins s σ H x xs v us Q I rx rs q
  rcases q with q | q
  · exact h pins s σ H x xs v us Q I rx rs q
  · exact h' pins s σ H x xs v us Q I rx rs q
/-- a[b] -/
theorem pe_ix {r : R2} (hr : IxR X r) (ha : PE X a ta) (hb : PE X b tb) (hs : PlainIx b) : PE X (.Subscript a b pos) (tOp r ta tb) := by
  intro pins s σ H Q I h
  exact Subscript_ (binT ha hb I h fun v u s2 x y H2 I2 rx ry q => hr a b pins s2 σ H2 x y v u Q I2 rx ry q (hs _ _))

def rIxL (K : PySem.W.Frag) : R2 := fun x y H Q => ∃ p xs i v, x = .ref p ∧ y = .int i ∧ SqL K H p xs ∧ atI xs i = some v ∧ Q v H
def rIxT (K : PySem.W.Frag) : R2 := fun x y H Q => ∃ p xs i v, x = .ref p ∧ y = .int i ∧ SqT K H p xs ∧ atI xs i = some v ∧ Q v H
def rIxS : R2 := fun x y H Q => ∃ z i c, x = .str z ∧ y = .int i ∧ z.length ≤ sizeLine ∧ atI z.cps.toList i = some c ∧ Q (.str ⟨#[c]⟩) H
theorem ix_list : IxR X (rIxL X.K) := by
  intro value slice pins s σ H x y v u Q I rx ry h hs
  obtain ⟨p, xs, i, z, rfl, rfl, hq, he, q⟩ := h
  cases rx
  obtain ⟨t, rfl⟩ := ry
  obtain ⟨its, r, pl, hz⟩ := I.list hq
  obtain ⟨j, h1, h2, h3, h4, h5⟩ := atI_get he
  obtain ⟨w, ew, rw'⟩ := r.get h2
  have hl := r.length
  have hn := line63
  have fin : EP X pins σ Q w s := ⟨z, H, I, rw', q⟩
  by_cases h0 : 0 ≤ i
  · have hj : i.toNat = j := by
      rw [seqIndex_of h0 h5] at h1
      exact Option.some.inj h1
    exact item_listR pl.isList h0 (by omega) (by rw [hj]; simpa using ew) fin hs
  · have hj : (i + (its.toArray.size : Int)).toNat = j := by
      rw [seqIndex_neg (by omega) h4] at h1
      rw [List.size_toArray, ← hl]
      exact Option.some.inj h1
    exact subscriptTail_builtinR (x := w) pl.isList.typeIs slot_list_getitem.lookup
      (wpAny_getItem_list_neg (Q := fun r s' => r = w ∧ EP X pins σ Q r s') pl.isList (by omega) (by rw [List.size_toArray] <;> omega) (by omega) (by rw [hj]; simpa using ew) ⟨rfl, fin⟩) hs
theorem ix_tup : IxR X (rIxT X.K) := by
  intro value slice pins s σ H x y v u Q I rx ry h hs
  obtain ⟨p, xs, i, z, rfl, rfl, hq, he, q⟩ := h
  cases rx
  obtain ⟨t, rfl⟩ := ry
  obtain ⟨its, r, pl, hz⟩ := I.tuple hq
  obtain ⟨j, h1, h2, h3, h4, h5⟩ := atI_get he
  obtain ⟨w, ew, rw'⟩ := r.get h2
  have hl := r.length
  have hn := line63
  have fin : EP X pins σ Q w s := ⟨z, H, I, rw', q⟩
  exact subscriptTail_builtinR (x := w) pl.typeIs slot_tuple_getitem.lookup
    (getItem_tuple (j := j) (Q := fun r s' => r = w ∧ EP X pins σ Q r s') pl (by omega) (by omega) (by rw [List.size_toArray, ← hl]; exact h1) (by simpa using ew) ⟨rfl, fin⟩) hs
theorem ix_str : IxR X rIxS := by
  intro value slice pins s σ H x y v u Q I rx ry h hs
  obtain ⟨z, i, c, rfl, rfl, hz, he, q⟩ := h
  obtain ⟨t, rfl⟩ := rx
  obtain ⟨t', rfl⟩ := ry
  obtain ⟨j, h1, h2, h3, h4, h5⟩ := atI_get he
  have hl : z.cps.toList.length = z.length := by simp [Str.length]
  rw [hl] at h1 h4 h5
  have hn := line63
  exact tail_any (typeIs_str s z t) slot_str_getitem.lookup (getItem_str (c := c) (by
    have e1 : decide (i < -(2 ^ 63 : Int)) = false := decide_eq_false (by omega)
    have e2 : decide (i ≥ 2 ^ 63) = false := decide_eq_false (by omega)
    rw [e1, e2, Bool.or_false]) (by rw [h1]; simpa using h2) ⟨.str ⟨#[c]⟩, H, I.tok _, ⟨_, rfl⟩, q⟩) hs
/-- list, tuple or str -/
def rIx (K : PySem.W.Frag) : R2 := fun x y H Q => rIxL K x y H Q ∨ rIxT K x y H Q ∨ rIxS x y H Q
theorem ix_seq : IxR X (rIx X.K) := ix_list.or (ix_tup.or ix_str)

/-! ### xs[i] = v, any sign -/
/-- the list's object behind a store -/
theorem mapSeq_set (its : List Value) (n j : Nat) (u : Value) : Obj.mapSeq (·.setIfInBounds j u) { cls := .type "list", data := .seq its.toArray n } = { cls := .type "list", data := .seq (its.set j u).toArray n } := by
  simp [Obj.mapSeq]
theorem Inv.lst {pins : List (Addr × Obj)} {σ : St} {H : Hp} {s : Shared} {p : Addr} {xs : List V} (I : Inv X pins σ H s) (h : H p = some (.lst xs)) :
    ∃ (its : List Value) (n : Nat), Vals xs its ∧ s.heap.get? p = some { cls := .type "list", data := .seq its.toArray n } ∧ xs.length ≤ sizeLine := by
  obtain ⟨z, its, n, r, e⟩ := I.hok p _ h
  exact ⟨its, n, r, e, z⟩
/-- the list at p is written by an update of its object -/
theorem Inv.lstUpd {pins : List (Addr × Obj)} {σ : St} {H : Hp} {s : Shared} {p : Addr} {xs ys : List V} {its its' : List Value} {n n' : Nat} {f : Obj → Obj} (I : Inv X pins σ H s) (h : H p = some (.lst xs))
    (ho : s.heap.get? p = some { cls := .type "list", data := .seq its.toArray n }) (hf : f { cls := .type "list", data := .seq its.toArray n } = { cls := .type "list", data := .seq its'.toArray n' }) (r : Vals ys its') (hz : ys.length ≤ sizeLine) (t : Nat) :
    Inv X pins σ (upd H p (.lst ys)) { s with heap := s.heap.update p f, toks := t } := by
  have e : (s.heap.update p f).get? p = some { cls := .type "list", data := .seq its'.toArray n' } := by
    rw [Heap.get?_update_self f ho (by rw [hf] <;> rfl), hf]
  refine I.write (x := p) (e := p) (by rw [h]; trivial) (.inl rfl) (fun b u hb q => (Heap.get?_update_other _ _ (Ne.symm hb)).trans q) ⟨_, e⟩ ?_
  exact ⟨hz, its', n', r, e⟩
def rSetL : V → V → V → Hp → (Hp → Prop) → Prop := fun o i v H Q => ∃ p xs k j, o = .ref p ∧ i = .int k ∧ H p = some (.lst xs) ∧ ixN xs.length k = some j ∧ Q (upd H p (.lst (xs.set j v)))
theorem set_list : PSet X rSetL := by
  intro pins s σ H o i v ov iv u Q I ro ri rv h
  obtain ⟨p, xs, k, j, rfl, rfl, hp, hj, q⟩ := h
  cases ro
  obtain ⟨t, rfl⟩ := ri
  obtain ⟨its, n, r, ho, hz⟩ := I.lst hp
  obtain ⟨h1, h2, h3, h4⟩ := ixN_seq hj
  have hl := r.length
  have hn := line63
  have I' : Inv X pins σ (upd H p (.lst (xs.set j v))) { s with heap := s.heap.update p (Obj.mapSeq (·.setIfInBounds j u)) } :=
    I.lstUpd hp ho (mapSeq_set its n j u) (r.set rv j) (by rw [List.length_set]; exact hz) s.toks
  by_cases h0 : 0 ≤ k
  · have hk : k.toNat = j := by
      rw [seqIndex_of h0 h4] at h1
      exact Option.some.inj h1
    exact PySem.W.ki_setAt ho h0 (by omega) (by rw [List.size_toArray, ← hl]; exact h4) (by rw [hk]; exact ⟨_, I', q⟩)
  · have hk : (k + (its.toArray.size : Int)).toNat = j := by
      rw [seqIndex_neg (by omega) h3] at h1
      rw [List.size_toArray, ← hl]
      exact Option.some.inj h1
    exact PySem.W.ki_setBack ho (by omega) (by rw [List.size_toArray, ← hl]; exact h3) (by omega) (by rw [hk]; exact ⟨_, I', q⟩)

/-! ### slices -/
theorem slice_bounds (lo hi : Option Int) (n : Nat) : (sliceBounds lo hi none n).1 = ((HT.sIx n 0 lo : Nat) : Int) ∧ (sliceBounds lo hi none n).2.1 = ((HT.sIx n n hi : Nat) : Int) ∧ (sliceBounds lo hi none n).2.2 = 1 := by
  refine ⟨?_, ?_, rfl⟩
  · cases lo with
    | none => simp [sliceBounds, HT.sIx]
    | some i =>
      simp only [sliceBounds, HT.sIx, Option.getD_none, show (1 : Int) > 0 by decide, if_true]
      by_cases h : i < 0
      · simp only [h, if_true] <;> omega
      · simp only [h, if_false] <;> omega
  · cases hi with
    | none => simp [sliceBounds, HT.sIx]
    | some i =>
      simp only [sliceBounds, HT.sIx, Option.getD_none, show (1 : Int) > 0 by decide, if_true]
      by_cases h : i < 0
      · simp only [h, if_true] <;> omega
      · simp only [h, if_false] <;> omega
theorem slicePick_cut (its : List Value) (lo hi : Option Int) : slicePick its.toArray lo hi none = ((its.drop (HT.sIx its.length 0 lo)).take (HT.sIx its.length its.length hi - HT.sIx its.length 0 lo)).toArray := by
  obtain ⟨h1, h2, h3⟩ := slice_bounds lo hi its.toArray.size
  unfold slicePick
  rw [h1, h2, h3]
  simp only [sliceRange_one, pick_run, List.size_toArray] <;> rfl
/-- xs[lo:hi] of a list: a new list -/
def rSlL (K : PySem.W.Frag) : V → Option Int → Option Int → Hp → VK → Prop := fun x lo hi H Q => ∃ a xs, x = .ref a ∧ SqL K H a xs ∧ ∀ p, H p = none → Q (.ref p) (upd H p (.lst (cutV xs lo hi)))
theorem sl_list : SlR X (rSlL X.K) := by
  intro pins s σ H x v vl vu lo hi sl Q I rx hs pl pu h
  obtain ⟨a, xs, rfl, hx, q⟩ := h
  cases rx
  obtain ⟨its, r, ht, hz⟩ := I.list hx
  have hlen := r.length
  refine ⟨"list", _, slot_list_getitem.lookup, ht.isList.typeIs, ?_⟩
  refine wpAny_getItem_list_slice ht.isList hs pl pu .none (by simp) ?_ (by rw [List.size_toArray] <;> omega)
  rw [slicePick_cut, ← hlen]
  refine ⟨.ref s.heap.objs.size, _, I.laid (t' := s.toks) (o := .lst (cutV xs lo hi)) (fun b ob q => Heap.get?_push_of_some _ q) (Nat.le_refl _) ?_, rfl, q _ (I.hok.fresh (Nat.le_refl _))⟩
  exact ⟨Nat.le_trans (cutV_length xs lo hi) hz, _, 0, (r.drop (HT.sIx xs.length 0 lo)).take (HT.sIx xs.length xs.length hi - HT.sIx xs.length 0 lo), Heap.get?_push_size _ rfl⟩

/-! ### in, not in: flat items -/
def flatV : V → Bool
  | .non => true
  | .bl _ => true
  | .int _ => true
  | .str _ => true
  | _ => false
/-- == of flat values -/
def eqV : V → V → Bool
  | .non, .non => true
  | .bl a, .bl b => a == b
  | .bl a, .int b => (if a then 1 else 0) == b
  | .int a, .bl b => a == (if b then 1 else 0)
  | .int a, .int b => a == b
  | .str a, .str b => a == b
  | _, _ => false
theorem eqAt_V {A : Around} {s : Shared} {y x : V} {u v : Value} (ry : RelV y u) (rx : RelV x v) (fy : flatV y = true) (fx : flatV x = true) : SeqAt.EqAt A s u v (eqV y x) := by
  cases y with
  | non =>
    cases ry
    cases x with
    | non => cases rx; exact SeqAt.EqAt.same _
    | bl b => cases rx; exact SeqAt.EqAt.none_bool b
    | int b => obtain ⟨t, rfl⟩ := rx; exact SeqAt.EqAt.none_int b t
    | str b => obtain ⟨t, rfl⟩ := rx; exact SeqAt.EqAt.none_str b t
    | _ => exact absurd (show false = true from fx) Bool.false_ne_true
  | bl a =>
    cases ry
    cases x with
    | non => cases rx; exact SeqAt.EqAt.bool_none a
    | bl b => cases rx; exact SeqAt.EqAt.bool_bool a b
    | int b => obtain ⟨t, rfl⟩ := rx; exact SeqAt.EqAt.bool_int a b t
    | str b => obtain ⟨t, rfl⟩ := rx; exact SeqAt.EqAt.bool_str a b t
    | _ => exact absurd (show false = true from fx) Bool.false_ne_true
  | int a =>
    obtain ⟨t', rfl⟩ := ry
    cases x with
    | non => cases rx; exact SeqAt.EqAt.int_none a t'
    | bl b => cases rx; exact SeqAt.EqAt.int_bool a t' b
    | int b => obtain ⟨t, rfl⟩ := rx; exact SeqAt.EqAt.int_int a t' b t
    | str b => obtain ⟨t, rfl⟩ := rx; exact SeqAt.EqAt.int_str a t' b t
    | _ => exact absurd (show false = true from fx) Bool.false_ne_true
  | str a =>
    obtain ⟨t', rfl⟩ := ry
    cases x with
    | non => cases rx; exact SeqAt.EqAt.str_none a t'
    | bl b => cases rx; exact SeqAt.EqAt.str_bool a t' b
    | int b => obtain ⟨t, rfl⟩ := rx; exact SeqAt.EqAt.str_int a t' b t
    | str b => obtain ⟨t, rfl⟩ := rx; exact SeqAt.EqAt.str_str a t' b t
    | _ => exact absurd (show false = true from fx) Bool.false_ne_true
  | _ => exact absurd (show false = true from fy) Bool.false_ne_true
/-- the items' answers, read off the values (a value's own answer does not lean on its token) -/
def eqU (x : V) (u : Value) : Bool := match u with
  | .none => eqV .non x
  | .bool b => eqV (.bl b) x
  | .int i _ => eqV (.int i) x
  | .str z _ => eqV (.str z) x
  | _ => false
theorem eqU_of {x y : V} {u : Value} (r : RelV y u) (f : flatV y = true) : eqU x u = eqV y x := by
  cases y with
  | non => cases r; rfl
  | bl b => cases r; rfl
  | int i => obtain ⟨t, rfl⟩ := r; rfl
  | str z => obtain ⟨t, rfl⟩ := r; rfl
  | _ => exact absurd (show false = true from f) Bool.false_ne_true
theorem any_eqU {x : V} : ∀ {xs : List V} {us : List Value}, Vals xs us → xs.all flatV = true → us.any (eqU x) = xs.any fun y => eqV y x
  | _, _, .nil, _ => rfl
  | y :: xs, u :: us, .cons r t, f => by
    rw [List.all_cons, Bool.and_eq_true] at f
    rw [List.any_cons, List.any_cons, eqU_of r f.1, any_eqU t f.2]
theorem mem_eqAt {A : Around} {s : Shared} {x : V} {v : Value} (rx : RelV x v) (fx : flatV x = true) : ∀ {xs : List V} {us : List Value}, Vals xs us → xs.all flatV = true → ∀ u ∈ us, SeqAt.EqAt A s u v (eqU x u)
  | _, _, .nil, _ => fun u hu => by cases hu
  | y :: xs, u :: us, .cons r t, f => fun u' hu => by
    rw [List.all_cons, Bool.and_eq_true] at f
    rcases List.mem_cons.mp hu with rfl | hu
    · rw [eqU_of r f.1]; exact eqAt_V r rx f.1 fx
    · exact mem_eqAt rx fx t f.2 u' hu
def inV (x : V) (xs : List V) : Bool := xs.any fun y => eqV y x
/-- x in a list or tuple of flat items -/
def rIn (K : PySem.W.Frag) (neg : Bool) : R2 := fun x y H Q => ∃ p xs, y = .ref p ∧ (SqL K H p xs ∨ SqT K H p xs) ∧ flatV x = true ∧ xs.all flatV = true ∧ Q (.bl (if neg then !inV x xs else inV x xs)) H
theorem op_in_seq : OpR X (compareOp .In) (rIn X.K false) := by
  intro pins s σ H x y v u Q I rx ry h
  obtain ⟨p, xs, rfl, hq, fx, fs, q⟩ := h
  cases ry
  rcases hq with hq | hq
  · obtain ⟨its, r, pl, hz⟩ := I.list hq
    refine SeqAt.in_listAt (eqU x) pl.isList (fun w hw => mem_eqAt rx fx r fs w (by simpa using hw)) ⟨.bl _, H, I, rfl, ?_⟩
    rw [show its.toArray.any (eqU x) = its.any (eqU x) by simp, any_eqU r fs]
    exact q
  · obtain ⟨its, r, pl, hz⟩ := I.tuple hq
    refine SeqAt.in_tupleAt (eqU x) pl (fun w hw => mem_eqAt rx fx r fs w (by simpa using hw)) ⟨.bl _, H, I, rfl, ?_⟩
    rw [show its.toArray.any (eqU x) = its.any (eqU x) by simp, any_eqU r fs]
    exact q
theorem op_notIn_seq : OpR X (compareOp .NotIn) (rIn X.K true) := by
  intro pins s σ H x y v u Q I rx ry h
  obtain ⟨p, xs, rfl, hq, fx, fs, q⟩ := h
  cases ry
  rcases hq with hq | hq
  · obtain ⟨its, r, pl, hz⟩ := I.list hq
    refine SeqAt.notIn_listAt (eqU x) pl.isList (fun w hw => mem_eqAt rx fx r fs w (by simpa using hw)) ⟨.bl _, H, I, rfl, ?_⟩
    rw [show its.toArray.any (eqU x) = its.any (eqU x) by simp, any_eqU r fs]
    exact q
  · obtain ⟨its, r, pl, hz⟩ := I.tuple hq
    refine SeqAt.notIn_tupleAt (eqU x) pl (fun w hw => mem_eqAt rx fx r fs w (by simpa using hw)) ⟨.bl _, H, I, rfl, ?_⟩
    rw [show its.toArray.any (eqU x) = its.any (eqU x) by simp, any_eqU r fs]
    exact q
theorem op_notIn_str : OpR X (compareOp .NotIn) (fun x y H Q => ∃ i j, x = .str i ∧ y = .str j ∧ Q (.bl (!(!(Builtin.Str.occurrences j i 0 j.length 1).isEmpty))) H) := by
  intro pins s σ H x y v u Q I rx ry h
  obtain ⟨i, j, rfl, rfl, q⟩ := h
  obtain ⟨t, rfl⟩ := rx
  obtain ⟨t', rfl⟩ := ry
  exact notIn_str ⟨.bl _, H, I, rfl, q⟩

/-! ### len, list(x), tuple(x) of any list or tuple that is read -/
theorem call_len_seq : CallR X (.builtin "len") (fun xs H Q => ∃ p ys, xs = [.ref p] ∧ (SqL X.K H p ys ∨ SqT X.K H p ys) ∧ Q (.int ys.length) H) := by
  intro pins s σ H xs us Q I r h
  obtain ⟨p, ys, rfl, hq, q⟩ := h
  obtain ⟨u, rfl, rx⟩ := vals1 r
  cases rx
  have hn := line63
  rcases hq with hq | hq
  · obtain ⟨its, r', pl, hz⟩ := I.list hq
    have hlen := r'.length
    exact Calls.call_len_list pl.isList (by simp only [List.size_toArray] <;> omega) ⟨.int ys.length, H, I.tok _, ⟨s.toks + 1, by rw [List.size_toArray, hlen]⟩, q⟩
  · obtain ⟨its, r', pl, hz⟩ := I.tuple hq
    have hlen := r'.length
    exact len_tuple pl (by simp only [List.size_toArray] <;> omega) ⟨.int ys.length, H, I.tok _, ⟨s.toks + 1, by rw [List.size_toArray, hlen]⟩, q⟩
theorem call_len_str : CallR X (.builtin "len") (fun xs H Q => ∃ z, xs = [.str z] ∧ z.length ≤ sizeLine ∧ Q (.int z.length) H) := by
  intro pins s σ H xs us Q I r h
  obtain ⟨z, rfl, hz, q⟩ := h
  obtain ⟨u, rfl, t, rfl⟩ := vals1 r
  have hn := line63
  exact len_str (by omega) ⟨.int z.length, H, I.tok _, ⟨_, rfl⟩, q⟩
theorem CallR.or {f : Value} {r r' : List V → Hp → VK → Prop} (h : CallR X f r) (h' : CallR X f r') : CallR X f (fun xs H Q => r xs H Q ∨ r' xs H Q) := by
  intro pins s σ H xs us Q I rs q
  rcases q with q | q
  · exact h pins s σ H xs us Q I rs q
  · exact h' pins s σ H xs us Q I rs q
theorem call_list_of : CallR X (.type "list") (fun xs H Q => ∃ p ys, xs = [.ref p] ∧ (SqL X.K H p ys ∨ SqT X.K H p ys) ∧ ∀ l, H l = none → Q (.ref l) (upd H l (.lst ys))) := by
  intro pins s σ H xs us Q I r h
  obtain ⟨p, ys, rfl, hq, q⟩ := h
  obtain ⟨u, rfl, rx⟩ := vals1 r
  cases rx
  have fin : ∀ (its : List Value), Vals ys its → ys.length ≤ sizeLine → ∀ (h' : Heap) (c' : Nat), (∀ b o', s.heap.get? b = some o' → h'.get? b = some o') →
      h'.get? s.heap.objs.size = some { cls := .type "list", dict := none, data := .seq its.toArray c', slots := #[] } → EP X pins σ Q (.ref s.heap.objs.size) { s with heap := h' } := fun its r' hz h' c' kp e =>
    ⟨.ref s.heap.objs.size, _, I.laid (t' := s.toks) kp (Nat.le_refl _) (show ObjOk X.prog X.w _ h' _ (.lst ys) from ⟨hz, its, c', r', e⟩), rfl, q _ (I.hok.fresh (Nat.le_refl _))⟩
  rcases hq with hq | hq
  · obtain ⟨its, r', pl, hz⟩ := I.list hq
    have hlen := r'.length
    obtain ⟨o, ho, hc, n, hd⟩ := pl.isList
    exact call_list_seq p (.inl rfl) ho hc hd (fun h' c' kp e => fin its r' hz h' c' kp e) (by simp only [List.size_toArray] <;> omega)
  · obtain ⟨its, r', pl, hz⟩ := I.tuple hq
    have hlen := r'.length
    obtain ⟨o, ho, hc, n, hd⟩ := pl
    exact call_list_seq p (.inr rfl) ho hc hd (fun h' c' kp e => fin its r' hz h' c' kp e) (by simp only [List.size_toArray] <;> omega)
theorem call_tuple_of : CallR X (.type "tuple") (fun xs H Q => ∃ p ys, xs = [.ref p] ∧ ((SqL X.K H p ys ∧ ∀ l, H l = none → Q (.ref l) (upd H l (.tup ys))) ∨ (SqT X.K H p ys ∧ Q (.ref p) H))) := by
  intro pins s σ H xs us Q I r h
  obtain ⟨p, ys, rfl, h⟩ := h
  obtain ⟨u, rfl, rx⟩ := vals1 r
  cases rx
  rcases h with ⟨hq, q⟩ | ⟨hq, q⟩
  · obtain ⟨its, r', pl, hz⟩ := I.list hq
    have hlen := r'.length
    refine call_tuple_list pl.isList (fun h' kp => ?_) (by simp only [List.size_toArray] <;> omega)
    have I1 : Inv X pins σ H { s with heap := h' } := I.kept (t' := s.toks) kp
    have I2 : Inv X pins σ (upd H h'.objs.size (.tup ys)) { s with heap := h'.push { cls := .type "tuple", data := .seq its.toArray } } :=
      I1.laid (t' := s.toks) (fun b o e => Heap.get?_push_of_some _ e) (Nat.le_refl _) (show ObjOk X.prog X.w _ _ _ (.tup ys) from ⟨hz, its, r', IsTup.new _ _⟩)
    exact ⟨.ref h'.objs.size, _, I2, rfl, q _ (I1.hok.fresh (Nat.le_refl _))⟩
  · obtain ⟨its, r', pl, hz⟩ := I.tuple hq
    exact call_tuple_same pl ⟨.ref p, H, I, rfl, q⟩

/-! ### the call of a builtin's method: o.m(..) -/
/-- the value is of that builtin type -/
def tyV (K : PySem.W.Frag) (T : String) (x : V) (H : Hp) : Prop := match x with
  | .str _ => T = "str"
  | .int _ => T = "int"
  | .ref p => (T = "list" ∧ ∃ xs, SqL K H p xs) ∨ (T = "tuple" ∧ ∃ o, K.lookup p = some o ∧ o.cls = .type "tuple" ∧ o.dict = none) ∨
      (T = "dict" ∧ ((∃ kvs, H p = some (.dK kvs)) ∨ ∃ kvs, H p = some (.dT kvs))) ∨ (T = "set" ∧ ∃ S n, H p = some (.set S n))
  | _ => False
theorem tyV_is {pins : List (Addr × Obj)} {σ : St} {H : Hp} {s : Shared} {T : String} {x : V} {v : Value} (I : Inv X pins σ H s) (r : RelV x v) (ty : tyV X.K T x H) :
    s.TypeIs v T ∧ ∀ a, v = .ref a → ∃ ob, s.heap.get? a = some ob ∧ ob.dict = none := by
  cases x with
  | str z =>
    obtain ⟨t, rfl⟩ := r
    cases (show T = "str" from ty)
    exact ⟨typeIs_str s z t, fun _ e => nomatch e⟩
  | int i =>
    obtain ⟨t, rfl⟩ := r
    cases (show T = "int" from ty)
    exact ⟨typeIs_int s i t, fun _ e => nomatch e⟩
  | ref p =>
    cases r
    rcases ty with ⟨rfl, xs, hq⟩ | ⟨rfl, o, hk, hc, hd⟩ | ⟨rfl, hk⟩ | ⟨rfl, S, n, hk⟩
    · obtain ⟨its, _, pl, _⟩ := I.list hq
      refine ⟨pl.isList.typeIs, fun a e => ?_⟩
      cases e
      obtain ⟨o, n, e, c, hd, _⟩ := pl
      exact ⟨o, e, hd⟩
    · refine ⟨⟨o, I.kIn p o hk, hc⟩, fun a e => ?_⟩
      cases e
      exact ⟨o, I.kIn _ o hk, hd⟩
    · have z : ∃ o, s.heap.get? p = some o ∧ o.ExactDict := by
        rcases hk with ⟨kvs, hk⟩ | ⟨kvs, hk⟩
        · obtain ⟨_, _, _, _, o, _, _, e, ex, _⟩ := I.hok p _ hk
          exact ⟨o, e, ex⟩
        · obtain ⟨_, _, _, _, o, _, _, e, ex, _⟩ := I.hok p _ hk
          exact ⟨o, e, ex⟩
      obtain ⟨o, e, ex⟩ := z
      refine ⟨⟨o, e, ex.1⟩, fun a e2 => ?_⟩
      cases e2
      exact ⟨o, e, ex.2.1⟩
    · obtain ⟨o, _, _, _, e, ex, _⟩ := I.hok p _ hk
      refine ⟨⟨o, e, ex.1⟩, fun a e2 => ?_⟩
      cases e2
      exact ⟨o, e, ex.2.1⟩
  | _ => exact False.elim ty
def tBM0 (K : PySem.W.Frag) (T : String) (r : V → List V → Hp → VK → Prop) (to : TE) : TE := fun σ H Q => to σ H fun x H1 => tyV K T x H1 ∧ r x [] H1 Q
def tBM (K : PySem.W.Frag) (T : String) (r : V → List V → Hp → VK → Prop) (to : TE) (t : TA) : TE := fun σ H Q => to σ H fun x H1 => tyV K T x H1 ∧ t σ H1 fun xs H2 => r x xs H2 Q
variable {o e : Expr} {es : List Expr} {to : TE} {t : TA} {name : Str} {apos cpos : Pos} {T id : String} {r : V → List V → Hp → VK → Prop}
theorem pe_bm0 (pa : PlainAttrs T) (slot : Slot T name id) (hty : typeOf (.builtin id) = pure (.type "method_descriptor")) (hm : MtR X id r) (ho : PE X o to)
    (hbase : attributeBase o name X.env (eval o X.env) = eval o X.env := by rfl) (hline : (apos.endLine == cpos.line) = true := by rfl) : PE X (.Call (.Attribute o name apos) [] [] cpos) (tBM0 X.K T r to) := by
  intro pins s σ H Q I h
  refine wpAny_Call_method0_late hbase hline (thn (ho pins s σ H _ I h) fun v s1 ⟨x, H1, I1, r1, ty, q1⟩ => ?_)
  obtain ⟨h1, h2⟩ := tyV_is I1 r1 ty
  exact ⟨T, id, pa, slot, hty, h1, h2, Calls.callWith_builtin rfl (PySem.evalArgs_none (hm pins s1 σ H1 x [] v [] Q I1 r1 .nil q1))⟩
theorem pe_bm (pa : PlainAttrs T) (slot : Slot T name id) (hty : typeOf (.builtin id) = pure (.type "method_descriptor")) (hm : MtR X id r) (ho : PE X o to) (ha : PA X (e :: es) t)
    (hbase : attributeBase o name X.env (eval o X.env) = eval o X.env := by rfl)
    (hfew : ((backTo cpos (starEach (e :: es) X.env)).all (fun x => !x.1) && (backToKw cpos (keywordEach [] X.env)).all (fun x => x.1.isSome)
      && decide ((e :: es).length + ([] : List Keyword).length + (if ([] : List Keyword).isEmpty then 0 else 1) < 30)) = true := by rfl)
    (hline : (apos.endLine == cpos.line) = true := by rfl) (hs : starEach (e :: es) X.env = (false, eval e X.env) :: starEach es X.env := by rfl) (hplain : (backTo cpos (starEach es X.env)).any (·.1) = false := by rfl) :
    PE X (.Call (.Attribute o name apos) (e :: es) [] cpos) (tBM X.K T r to t) := by
  intro pins s σ H Q I h
  refine wpAny_Call_method_late hbase hfew hline rfl (thn (ho pins s σ H _ I h) fun v s1 ⟨x, H1, I1, r1, ty, q1⟩ => ?_)
  obtain ⟨h1, h2⟩ := tyV_is I1 r1 ty
  refine ⟨T, id, pa, slot, hty, h1, h2, ?_⟩
  have hA := ha cpos pins s1 σ H1 _ I1 q1
  rw [hs] at hA ⊢
  refine Calls.callWith_builtin (by show (false || (backTo cpos (starEach es X.env)).any (·.1)) = false; rw [hplain] <;> rfl) (Calls.evalArgs_plain ?_)
  exact thn hA fun us s2 ⟨vs, H2, I2, r2, q2⟩ => hm pins s2 σ H2 x vs v us Q I2 r1 r2 q2
/- xs.append(e), list.index on a module's tuple .. are MtR facts of 06m -/
end
end L2

namespace L2
open PySem PySem.Spec PyProof.Rows

def MtM (X : Cx) (id : String) (r : V → List V → Hp → VK → Prop) : Prop :=
  ∀ (pins : List (Addr × Obj)) (s : Shared) (σ : St) (H : Hp) (x : V) (xs : List V) (v : Value) (us : List Value) (Q : VK), Inv X pins σ H s → RelV x v → Vals xs us → r x xs H Q →
    wpAny (model X.prog X.w) X.A (call (.builtin id) (v :: us)) (EP X pins σ Q) X.xe s

/-! ### lists of values -/
theorem Vals.one : ∀ {x : V} {us : List Value}, Vals [x] us → ∃ u, us = [u] ∧ RelV x u
  | _, _, .cons r .nil => ⟨_, rfl, r⟩
theorem Vals.two : ∀ {x y : V} {us : List Value}, Vals [x, y] us → ∃ u v, us = [u, v] ∧ RelV x u ∧ RelV y v
  | _, _, _, .cons r (.cons q .nil) => ⟨_, _, rfl, r, q⟩
theorem Vals.zero : ∀ {us : List Value}, Vals [] us → us = []
  | _, .nil => rfl
theorem Vals.dropLast {xs : List V} {us : List Value} (h : Vals xs us) : Vals xs.dropLast us.dropLast := by
  induction h with
  | nil => exact .nil
  | cons r t ih =>
    cases t with
    | nil => exact .nil
    | cons q t' => exact .cons r ih
theorem Vals.eraseIdx : ∀ {xs : List V} {us : List Value} (i : Nat), Vals xs us → Vals (xs.eraseIdx i) (us.eraseIdx i)
  | _, _, _, .nil => .nil
  | _, _, 0, .cons _ t => t
  | _, _, i + 1, .cons r t => .cons r (Vals.eraseIdx i t)
theorem Vals.reverse {xs : List V} {us : List Value} (h : Vals xs us) : Vals xs.reverse us.reverse := by
  induction h with
  | nil => exact .nil
  | cons r t ih => rw [List.reverse_cons, List.reverse_cons]; exact Vals.append ih (.cons r .nil)
theorem Vals.rep {xs : List V} {us : List Value} (h : Vals xs us) : ∀ k : Nat, Vals (List.replicate k xs).flatten (List.replicate k us).flatten
  | 0 => .nil
  | k + 1 => by
    rw [List.replicate_succ, List.replicate_succ, List.flatten_cons, List.flatten_cons]
    exact Vals.append h (Vals.rep h k)
theorem erase_last {α : Type} (l : List α) : l.eraseIdx (l.length - 1) = l.dropLast := by
  induction l with
  | nil => rfl
  | cons a r ih =>
    cases r with
    | nil => rfl
    | cons b r =>
      have e : (a :: b :: r).length - 1 = ((b :: r).length - 1) + 1 := by
        have h1 : (a :: b :: r).length = r.length + 2 := rfl
        have h2 : (b :: r).length = r.length + 1 := rfl
        omega
      rw [e, List.eraseIdx_cons_succ, ih]
      all_goals rfl
theorem len_erase {α : Type} : ∀ (l : List α) (i : Nat), (l.eraseIdx i).length ≤ l.length
  | [], _ => Nat.le_refl _
  | _ :: _, 0 => Nat.le_succ _
  | _ :: r, i + 1 => Nat.succ_le_succ (len_erase r i)
theorem foldl_rep (its : List Value) : ∀ (k : Nat) (acc : List Value),
    List.foldl (fun x1 x2 => x1 ++ x2) acc.toArray (List.replicate k its.toArray) = (acc ++ (List.replicate k its).flatten).toArray
  | 0, acc => by simp
  | k + 1, acc => by
    have e : acc.toArray ++ its.toArray = (acc ++ its).toArray := by simp
    have e2 : (acc ++ its) ++ (List.replicate k its).flatten = acc ++ (List.replicate (k + 1) its).flatten := by
      rw [List.replicate_succ, List.flatten_cons, List.append_assoc]
    rw [← e2, ← foldl_rep its k (acc ++ its), ← e, List.replicate_succ, List.foldl_cons]

section
variable {X : Cx} {pins : List (Addr × Obj)} {σ : St} {H : Hp} {s : Shared} {l b : Addr} {xs ys zs : List V}

/-! ### the two steps: a tracked list is rewritten, a new list is laid -/
theorem Inv.lset {its its' : List Value} {n : Nat} {f : Array Value → Array Value} {t' : Nat} (I : Inv X pins σ H s) (hH : H l = some (.lst xs))
    (e : s.heap.get? l = some { cls := .type "list", data := .seq its.toArray n }) (hf : f its.toArray = its'.toArray) (hv : Vals ys its') (hz : ys.length ≤ sizeLine) :
    Inv X pins σ (upd H l (.lst ys)) { s with heap := s.heap.update l (Obj.mapSeq f), toks := t' } := by
  have q := PySem.IsL.update e f
  rw [hf] at q
  refine I.write (x := l) (e := l) (by rw [hH]; exact trivial) (.inl rfl) (fun b' u hb hu => (Heap.get?_update_other s.heap (Obj.mapSeq f) (Ne.symm hb)).trans hu) ⟨_, q⟩ ?_
  exact ⟨hz, its', _, hv, q⟩
theorem Inv.lnew {its : List Value} {t' : Nat} (I : Inv X pins σ H s) (hv : Vals ys its) (hz : ys.length ≤ sizeLine) :
    Inv X pins σ (upd H s.heap.objs.size (.lst ys)) { s with heap := s.heap.push { cls := .type "list", data := .seq its.toArray }, toks := t' } :=
  I.laid (fun _ _ q => Heap.get?_push_of_some _ q) (Nat.le_refl _) ⟨hz, its, 0, hv, Heap.get?_push_size _ rfl⟩
theorem Inv.fresh (I : Inv X pins σ H s) : H s.heap.objs.size = none := I.hok.fresh (Nat.le_refl _)
theorem Inv.lstM (I : Inv X pins σ H s) (hH : H l = some (.lst xs)) : xs.length ≤ sizeLine ∧ ∃ (its : List Value) (n : Nat), Vals xs its ∧ xs.length = its.length ∧ s.heap.get? l = some { cls := .type "list", data := .seq its.toArray n } := by
  obtain ⟨z, its, n, r, e⟩ := I.hok l _ hH
  exact ⟨z, its, n, r, r.length, e⟩

theorem notLongL {n : Nat} (h : n ≤ sizeLine) : Builtin.List.listTooLong n = false := by
  unfold Builtin.List.listTooLong
  exact decide_eq_false (by omega)
end

section
variable {X : Cx}

/-! ### methods -/
def rAppend : V → List V → Hp → VK → Prop := fun x vs H Q => ∃ l xs y, x = .ref l ∧ vs = [y] ∧ H l = some (.lst xs) ∧ xs.length < sizeLine ∧ Q .non (upd H l (.lst (xs ++ [y])))
theorem mt_append : MtM X "list.append" rAppend := by
  intro pins s σ H x vs v us Q I rx rv h
  obtain ⟨l, xs, y, rfl, rfl, hH, hz, q⟩ := h
  cases rx
  obtain ⟨u, rfl, ru⟩ := rv.one
  obtain ⟨z, its, n, r, hl, e⟩ := I.lstM hH
  refine call_meets F.slot_list_append ⟨_, e, rfl⟩ F.entry_list_append (F.args_list_append_2 _ _) (PySem.list_append l its.toArray n u (by rw [List.size_toArray]; omega)) ⟨e, ?_⟩
  refine ⟨.non, _, I.lset (its' := its ++ [u]) hH e (by simp) (r.append (.cons ru .nil)) ?_, rfl, q⟩
  rw [List.length_append, List.length_singleton]
  omega

def rExtend : V → List V → Hp → VK → Prop := fun x vs H Q => ∃ l b xs zs, x = .ref l ∧ vs = [.ref b] ∧ H l = some (.lst xs) ∧ H b = some (.lst zs) ∧ xs.length + zs.length ≤ sizeLine ∧ Q .non (upd H l (.lst (xs ++ zs)))
theorem mt_extend : MtM X "list.extend" rExtend := by
  intro pins s σ H x vs v us Q I rx rv h
  obtain ⟨l, b, xs, zs, rfl, rfl, hH, hB, hz, q⟩ := h
  cases rx
  obtain ⟨u, rfl, ru⟩ := rv.one
  cases ru
  obtain ⟨z, its, n, r, hl, e⟩ := I.lstM hH
  obtain ⟨z2, its2, n2, r2, hl2, e2⟩ := I.lstM hB
  have hsz : its.toArray.size + its2.toArray.size ≤ sizeLine := by rw [List.size_toArray, List.size_toArray]; omega
  have hlong : ¬ (!its.toArray.isEmpty && Builtin.List.listTooLong (its.toArray.size + its2.toArray.size)) = true := by
    rw [notLongL hsz, Bool.and_false]
    exact Bool.false_ne_true
  refine call_meets F.slot_list_extend ⟨_, e, rfl⟩ F.entry_list_extend (F.args_list_extend_2 _ _)
    (AutoSeq1.list_extend_list_list_0 l its.toArray n b its2.toArray n2 hlong (by rw [List.size_toArray]; omega) (by omega)) ⟨e, e2, ?_⟩
  refine ⟨.non, _, I.lset (its' := its ++ its2) hH e (by simp) (r.append r2) ?_, rfl, q⟩
  rw [List.length_append]
  omega

def rPop : V → List V → Hp → VK → Prop := fun x vs H Q => ∃ l xs y, x = .ref l ∧ vs = [] ∧ H l = some (.lst xs) ∧ xs[xs.length - 1]? = some y ∧ Q y (upd H l (.lst xs.dropLast))
theorem mt_pop : MtM X "list.pop" rPop := by
  intro pins s σ H x vs v us Q I rx rv h
  obtain ⟨l, xs, y, rfl, rfl, hH, hy, q⟩ := h
  cases rx
  have hus := rv.zero
  subst hus
  obtain ⟨z, its, n, r, hl, e⟩ := I.lstM hH
  obtain ⟨u, hu, ru⟩ := r.get hy
  have hy' : its.toArray[its.toArray.size - 1]? = some u := by
    show its.toArray[its.length - 1]? = some u
    rw [← Array.getElem?_toList, ← hl]
    exact hu
  refine call_meets F.slot_list_pop ⟨_, e, rfl⟩ F.entry_list_pop (F.args_list_pop_1 _) (MeetsSeq.list_pop_last l its.toArray n u hy' (by rw [List.size_toArray]; omega)) ⟨e, ?_⟩
  refine ⟨y, _, I.lset (its' := its.dropLast) hH e ?_ r.dropLast ?_, ru, q⟩
  · show its.toArray.eraseIdxIfInBounds (its.toArray.size - 1) = its.dropLast.toArray
    rw [List.size_toArray, List.eraseIdxIfInBounds_toArray, erase_last]
  · rw [List.length_dropLast]
    omega

def rPopAt : V → List V → Hp → VK → Prop := fun x vs H Q => ∃ l xs i k y, x = .ref l ∧ vs = [.int i] ∧ H l = some (.lst xs) ∧ -(2 ^ 63) ≤ i ∧ i < 2 ^ 63 ∧ seqIndex? i xs.length = some k ∧ xs[k]? = some y ∧ Q y (upd H l (.lst (xs.eraseIdx k)))
theorem mt_popAt : MtM X "list.pop" rPopAt := by
  intro pins s σ H x vs v us Q I rx rv h
  obtain ⟨l, xs, i, k, y, rfl, rfl, hH, h1, h2, hk, hy, q⟩ := h
  cases rx
  obtain ⟨u, rfl, ru⟩ := rv.one
  obtain ⟨t, rfl⟩ := ru
  obtain ⟨z, its, n, r, hl, e⟩ := I.lstM hH
  obtain ⟨w, hw, rw'⟩ := r.get hy
  refine call_meets F.slot_list_pop ⟨_, e, rfl⟩ F.entry_list_pop (F.args_list_pop_2 _ _)
    (MeetsSeq.list_pop_at l its.toArray n i t k w (fitsIndex_both h1 h2) (by rw [List.size_toArray, ← hl]; exact hk) (by rw [← Array.getElem?_toList]; exact hw) (by rw [List.size_toArray]; omega)) ⟨e, ?_⟩
  refine ⟨y, _, I.lset (its' := its.eraseIdx k) hH e ?_ (r.eraseIdx k) ?_, rw', q⟩
  · show its.toArray.eraseIdxIfInBounds k = (its.eraseIdx k).toArray
    rw [List.eraseIdxIfInBounds_toArray]
  · have := len_erase xs k
    omega

def rReverse : V → List V → Hp → VK → Prop := fun x vs H Q => ∃ l xs, x = .ref l ∧ vs = [] ∧ H l = some (.lst xs) ∧ Q .non (upd H l (.lst xs.reverse))
theorem mt_reverse : MtM X "list.reverse" rReverse := by
  intro pins s σ H x vs v us Q I rx rv h
  obtain ⟨l, xs, rfl, rfl, hH, q⟩ := h
  cases rx
  have hus := rv.zero
  subst hus
  obtain ⟨z, its, n, r, hl, e⟩ := I.lstM hH
  refine call_meets F.slot_list_reverse ⟨_, e, rfl⟩ F.entry_list_reverse (F.args_list_reverse_1 _) (AutoSeq1.list_reverse_list_0 l its.toArray n (by rw [List.size_toArray]; omega)) ⟨e, ?_⟩
  refine ⟨.non, _, I.lset (its' := its.reverse) hH e (by simp) r.reverse ?_, rfl, q⟩
  rw [List.length_reverse]
  omega

def rClear : V → List V → Hp → VK → Prop := fun x vs H Q => ∃ l xs, x = .ref l ∧ vs = [] ∧ H l = some (.lst xs) ∧ Q .non (upd H l (.lst []))
theorem mt_clear : MtM X "list.clear" rClear := by
  intro pins s σ H x vs v us Q I rx rv h
  obtain ⟨l, xs, rfl, rfl, hH, q⟩ := h
  cases rx
  have hus := rv.zero
  subst hus
  obtain ⟨z, its, n, r, hl, e⟩ := I.lstM hH
  refine call_meets F.slot_list_clear ⟨_, e, rfl⟩ F.entry_list_clear (F.args_list_clear_1 _) (AutoSeq1.list_clear_list_0 l its.toArray n (by rw [List.size_toArray]; omega)) ⟨e, ?_⟩
  exact ⟨.non, _, I.lset (its' := []) (ys := []) hH e rfl .nil (Nat.zero_le _), rfl, q⟩

/-! ### list + list, list += list, list * int -/
def rCat : R2 := fun x y H Q => ∃ l b xs zs, x = .ref l ∧ y = .ref b ∧ H l = some (.lst xs) ∧ H b = some (.lst zs) ∧ xs.length + zs.length ≤ sizeLine ∧ ∀ p, H p = none → Q (.ref p) (upd H p (.lst (xs ++ zs)))
theorem op_cat : OpR X (binaryOp .Add) rCat := by
  intro pins s σ H x y v u Q I rx ry h
  obtain ⟨l, b, xs, zs, rfl, rfl, hH, hB, hz, q⟩ := h
  cases rx
  cases ry
  obtain ⟨z, its, n, r, hl, e⟩ := I.lstM hH
  obtain ⟨z2, its2, n2, r2, hl2, e2⟩ := I.lstM hB
  refine PySem.P.add_list e e2 ?_ (by rw [List.size_toArray, List.size_toArray]; omega)
  have ea : its.toArray ++ its2.toArray = (its ++ its2).toArray := by simp
  rw [ea]
  exact ⟨.ref _, _, I.lnew (t' := s.toks) (r.append r2) (by rw [List.length_append]; omega), rfl, q _ I.fresh⟩
/-- a list times an int (a negative one is nothing) -/
def rRep : R2 := fun x y H Q => ∃ l k xs, x = .ref l ∧ y = .int k ∧ H l = some (.lst xs) ∧ -(2 ^ 63) ≤ k ∧ k < 2 ^ 63 ∧ xs.length * k.toNat ≤ sizeLine ∧
  ∀ p, H p = none → Q (.ref p) (upd H p (.lst (List.replicate k.toNat xs).flatten))
theorem len_rep {α : Type} (xs : List α) (k : Nat) : (List.replicate k xs).flatten.length = k * xs.length := by
  induction k with
  | zero => simp
  | succ k ih => rw [List.replicate_succ, List.flatten_cons, List.length_append, ih, Nat.succ_mul, Nat.add_comm]
theorem op_rep : OpR X (binaryOp .Mult) rRep := by
  intro pins s σ H x y v u Q I rx ry h
  obtain ⟨l, k, xs, rfl, rfl, hH, h1, h2, hz, q⟩ := h
  cases rx
  obtain ⟨t, rfl⟩ := ry
  obtain ⟨z, its, n, r, hl, e⟩ := I.lstM hH
  have hlen : its.toArray.size * k.toNat ≤ sizeLine := by rw [List.size_toArray, ← hl]; exact hz
  have hcap : ¬ its.toArray.size * k.toNat > (2 ^ 63 - 1) / 8 := by
    have : (sizeLine : Nat) ≤ (2 ^ 63 - 1) / 8 := by decide
    omega
  have hfit : ¬ (!Builtin.List.listFitsIndex k) = true := by
    rw [fitsIndex_both h1 h2]
    exact Bool.false_ne_true
  have hlong : ¬ Builtin.List.listTooLong (its.toArray.size * k.toNat) = true := by
    rw [notLongL hlen]
    exact Bool.false_ne_true
  have hnew : List.foldl (fun x1 x2 => x1 ++ x2) #[] (List.replicate (if its.toArray.isEmpty = true then 0 else k.toNat) its.toArray) = (List.replicate k.toNat its).flatten.toArray := by
    have f0 : ∀ m : Nat, List.foldl (fun x1 x2 => x1 ++ x2) #[] (List.replicate m its.toArray) = (List.replicate m its).flatten.toArray := fun m => by
      have := foldl_rep its m []
      rw [List.nil_append] at this
      exact this
    rw [f0]
    cases its with
    | nil => simp
    | cons a r' => rw [if_neg (by simp)]
  refine wpAny_binaryOp_repeat_ref (T := "list") (U := "int") (by decide) ⟨_, e, rfl⟩ (fun s' => typeIs_int s' k t) noFill_list_mul F.fills_int_mul F.slot_int_rmul repeat_list F.slot_int_index.lookup
    (call_meets F.slot_int_rmul (typeIs_int s k t) F.entry_int_rmul (F.args_int_rmul_2 _ _) (int___rmul___int_list k t l its.toArray n)
      ⟨e, rfl, ⟨_, e, rfl⟩, call_meets F.slot_list_mul ⟨_, e, rfl⟩ F.entry_list_mul (F.args_list_mul_2 _ _) (AutoListH.list___mul___list_int_3 l its.toArray n k t hfit hcap hlong) ⟨e, ?_⟩⟩)
  rw [hnew]
  exact ⟨.ref _, _, I.lnew (t' := s.toks) (r.rep k.toNat) (by rw [len_rep, Nat.mul_comm]; exact hz), rfl, q _ I.fresh⟩

/-! ### del xs[i] -/
theorem del_list {pins : List (Addr × Obj)} {s : Shared} {σ : St} {H : Hp} {l : Addr} {xs : List V} {i : Int} {t : Tok} {k : Nat} {Q : Unit → Shared → Prop} (I : Inv X pins σ H s) (hH : H l = some (.lst xs))
    (h1 : -(2 ^ 63) ≤ i) (h2 : i < 2 ^ 63) (hk : seqIndex? i xs.length = some k) (h : ∀ s', Inv X pins σ (upd H l (.lst (xs.eraseIdx k))) s' → Q () s') :
    wpAny (model X.prog X.w) X.A (delItem (.ref l) (.int i t)) Q X.xe s := by
  obtain ⟨z, its, n, r, hl, e⟩ := I.lstM hH
  refine PySem.P.delItem_list (k := k) e (fitsIndex_both h1 h2) (by rw [List.size_toArray, ← hl]; exact hk) (h _ ?_) (by rw [List.size_toArray]; omega)
  refine I.lset (its' := its.eraseIdx k) (t' := s.toks) hH e ?_ (r.eraseIdx k) ?_
  · show its.toArray.eraseIdxIfInBounds k = (its.eraseIdx k).toArray
    rw [List.eraseIdxIfInBounds_toArray]
  · have := len_erase xs k
    omega
end

/-! ### xs[a:b] = ys -/
section
variable {prog : Program} {w : World} {A : Around} {E : Value → Shared → Prop} {s : Shared}
theorem splice_eq (its its2 : List Value) (a c : Nat) : its.toArray.extract 0 a ++ its2.toArray ++ its.toArray.extract c its.toArray.size = (its.take a ++ its2 ++ its.drop c).toArray := by
  apply Array.toList_inj.mp
  first
    | (simp
       exact List.take_of_length_le (by simp))
    | simp [List.take_of_length_le]
    | simp
theorem bounds_run {a c n : Nat} (hac : a ≤ c) (hc : c ≤ n) : sliceBounds (some (a : Int)) (some (c : Int)) none n = ((a : Int), (c : Int), 1) := by
  simp only [sliceBounds, Option.getD_none]
  have h1 : ¬ ((a : Int) < 0) := by omega
  have h2 : ¬ ((c : Int) < 0) := by omega
  simp only [h1, h2, if_false, show (1 : Int) > 0 by decide, if_true]
  congr 1
  · omega
  · congr 1; omega
set_option maxRecDepth 100000 in
/-- list.__setitem__ with a slice of step one and another list -/
theorem setItem_slice {l b sl : Addr} {items new : Array Value} {n n2 : Nat} {vl vu : Value} {a c : Nat} {Q : Unit → Shared → Prop}
    (e : s.heap.get? l = some { cls := .type "list", data := .seq items n }) (e2 : s.heap.get? b = some { cls := .type "list", data := .seq new n2 }) (hne : l ≠ b)
    (hs : s.heap.IsSliceOf sl vl vu .none) (pl : IsPart vl (some (a : Int))) (pu : IsPart vu (some (c : Int))) (hac : a ≤ c) (hc : c ≤ items.size)
    (hsz : items.size + new.size ≤ sizeLine) (h : Q () { s with heap := s.heap.update l (Obj.mapSeq fun xs => xs.extract 0 a ++ new ++ xs.extract c xs.size) }) :
    wpAny (model prog w) A (setItem (.ref l) (.ref sl) (.ref b)) Q E s := by
  have hl : s.heap.IsList l items := PySem.IsL.isList e
  have hb : s.heap.IsList b new := PySem.IsL.isList e2
  obtain ⟨os, hos, hcs, hds⟩ := id hs
  have hTs : s.TypeIs (.ref sl) "slice" := ⟨os, hos, hcs⟩
  have hstep : ¬ ((rawPart none == rawInt 0) = true) := Bool.false_ne_true
  have hsame : Builtin.List.listSameRef (.ref l) (.ref b) = false := by
    unfold Builtin.List.listSameRef
    exact beq_eq_false_iff_ne.mpr hne
  have hmax : (max (a : Int) (c : Int)).toNat = c := by omega
  have hz' : ((fun xs : Array Value => xs.extract 0 a ++ new ++ xs.extract c xs.size) items).size ≤ sizeLine + 1 := by
    simp only [Array.size_append, Array.size_extract]
    omega
  unfold setItem
  try with_reducible refine wpAny_holding ?_
  first | refine wpAny_bind (wpAny_pure ?_) | skip
  refine wpAny_bind (wpAny_sequenceKey hl.typeIs (by decide) ?_)
  refine wpAny_bind (wpAny_callSpecial?_slot (name := Str.ofString "__setitem__") hl.typeIs slot_list_setitem
    (wpAny_call_entry slot_list_setitem hl.typeIs entry_list_setitem ?_ (args_list_setitem _ _ _)))
  show wpAny _ _ (Builtin.List.listSubscript? (.ref sl) >>= _) _ _ s
  refine wpAny_bind ?_
  unfold Builtin.List.listSubscript?
  refine wpAny_bind (wpAny_specialOf hTs slice_no_index ?_)
  simp only [Option.isNone_none, if_true]
  refine wpAny_pure ?_
  show wpAny _ _ (typeOf (.ref sl) >>= _) _ _ s
  refine wpAny_bind (wpAny_typeOf hTs ?_)
  first
    | rw [if_neg (by decide)]
    | refine PySem.W.KFB.if_not (by decide) ?_
  rw [listSliceParts_eq]
  refine wpAny_bind (wpAny_bind (wpAny_field hos hds (x := .none) rfl (wpAny_bind (wpAny_listPart .none ?_))))
  rw [if_neg hstep]
  refine wpAny_bind (wpAny_field hos hds (x := vl) rfl (wpAny_bind (wpAny_listPart pl ?_)))
  refine wpAny_bind (wpAny_field hos hds (x := vu) rfl (wpAny_bind (wpAny_listPart pu (wpAny_pure ?_))))
  first
    | simp only [hsame, Bool.false_eq_true, if_false]
    | refine PySem.W.KFB.if_not hsame ?_
    | (dsimp only
       rw [if_neg (by rw [hsame]; exact Bool.false_ne_true)])
  refine wpAny_bind (m := Builtin.List.listAllItems (.ref b) "must assign iterable to extended slice") ?_
  unfold Builtin.List.listAllItems
  refine wpAny_bind (wpAny_typeOf hb.typeIs ?_)
  first
    | refine PySem.W.KFB.if_so (by decide) ?_
    | rw [if_pos (by decide)]
    | simp only [beq_self_eq_true, Bool.true_or, if_true]
  unfold Builtin.List.listItems
  refine wpAny_bind (wpAny_seqItems e2 rfl (wpAny_pure ?_))
  refine wpAny_bind (wpAny_bind (wpAny_seqItems e rfl (wpAny_pure ?_)))
  refine wpAny_bind (wpAny_of_eq ((sliceIndices_raw (some (a : Int)) (some (c : Int)) none items.size (by simp)).trans (congrArg (pure : Int × Int × Int → Sem (Int × Int × Int)) (bounds_run hac hc))) ?_)
  show wpAny _ _ (if ((1 : Int) == 1) = true then _ else _) _ _ s
  rw [if_pos (by decide)]
  refine wpAny_bind (wpAny_rule ?_)
  first
    | simp only [notLongL hsz, Bool.false_eq_true, if_false]
    | refine PySem.W.KFB.if_not (notLongL hsz) ?_
  first | refine wpAny_bind (wpAny_pure ?_) | skip
  show wpAny _ _ (updateSeq l (fun xs => xs.extract 0 ((a : Int)).toNat ++ new ++ xs.extract (max (a : Int) (c : Int)).toNat xs.size) >>= _) _ _ s
  rw [hmax, Int.toNat_natCast]
  refine wpAny_bind (wpAny_updateSeq (hz := Nat.le_trans (Nat.le_add_right _ _) hsz) (_hz' := hz') e rfl ?_)
  refine wpAny_bind (wpAny_letGo ?_)
  first
    | exact wpAny_bind (wpAny_pure (wpAny_pure ⟨.none, rfl, wpAny_pure h⟩))
    | exact wpAny_pure ⟨.none, rfl, wpAny_pure h⟩
end

section
variable {X : Cx}
/-- xs[a:c] = ys of another list, at the value level: sl is the slice object that was just made -/
theorem set_slice {pins : List (Addr × Obj)} {s : Shared} {σ : St} {H : Hp} {l b sl : Addr} {xs ys : List V} {a c : Int} {vl vu : Value} {Q : Unit → Shared → Prop} (I : Inv X pins σ H s)
    (hH : H l = some (.lst xs)) (hB : H b = some (.lst ys)) (hne : l ≠ b) (hs : s.heap.IsSliceOf sl vl vu .none) (ra : RelV (.int a) vl) (rc : RelV (.int c) vu) (h0 : 0 ≤ a) (hac : a ≤ c) (hc : c ≤ xs.length)
    (hz : xs.length + ys.length ≤ sizeLine) (h : ∀ s', Inv X pins σ (upd H l (.lst (xs.take a.toNat ++ ys ++ xs.drop c.toNat))) s' → Q () s') :
    wpAny (model X.prog X.w) X.A (setItem (.ref l) (.ref sl) (.ref b)) Q X.xe s := by
  obtain ⟨ta, rfl⟩ := ra
  obtain ⟨tc, rfl⟩ := rc
  obtain ⟨z, its, n, r, hl, e⟩ := I.lstM hH
  obtain ⟨z2, its2, n2, r2, hl2, e2⟩ := I.lstM hB
  obtain ⟨a', rfl⟩ := Int.eq_ofNat_of_zero_le h0
  obtain ⟨c', rfl⟩ := Int.eq_ofNat_of_zero_le (Int.le_trans h0 hac)
  simp only [Int.toNat_natCast] at h
  refine setItem_slice (a := a') (c := c') e e2 hne hs (.int _ _) (.int _ _) (by omega) (by rw [List.size_toArray]; omega) (by rw [List.size_toArray, List.size_toArray]; omega) (h _ ?_)
  refine I.lset (its' := its.take a' ++ its2 ++ its.drop c') (t' := s.toks) hH e ?_ (Vals.append (Vals.append (r.take _) r2) (r.drop _)) ?_
  · exact splice_eq its its2 a' c'
  · rw [List.length_append, List.length_append, List.length_take, List.length_drop]
    omega
end
end L2

namespace Att
open PySem PySem.W PySem.Calls PyProof.Rows

/-! ### the script -/
theorem ints_of_wellAll {P : Params} {h : Heap} : ∀ (ns : List Int) (vs : List Value), WellAll P h vs (ns.map WData.int) → IntsAre vs ns := by
  intro ns
  induction ns with
  | nil =>
    intro vs w
    rw [List.map_nil] at w
    cases w
    exact .nil
  | cons n ns ih =>
    intro vs w
    rw [List.map_cons] at w
    cases w with
    | cons a b =>
      cases a
      exact .cons _ _ (ih _ b)

theorem script_of {l : OpenLaw} {n : Nat} (hn : l.most = some n) {P : Params} {h : Heap} {args : List WData} {vals : List Value}
    (hpre : l.row.toRowW.claim.pre args = true) (hwl : WellAll P h vals args) :
    ∃ a vs ns, vals = [Value.ref a] ∧ args = [WData.list (ns.map WData.int)] ∧ h.get? a = some { cls := .type "list", data := .seq vs.toArray } ∧ IntsAre vs ns ∧ ns.length ≤ n := by
  have hsh : WShape.hasAll [] args [.list .int] = true := (pre_splitW hpre).1
  have hc : l.pre.holds [] { args := args } = true := (pre_splitW hpre).2
  obtain ⟨d, r, rfl, h1, h2⟩ := hasAllW_cons hsh
  obtain rfl := hasAllW_nil h2
  obtain ⟨xs, rfl, h3⟩ := hasW_list h1
  obtain ⟨ns, rfl⟩ := items_int h3
  have hlen : ns.length ≤ n := by
    unfold OpenLaw.pre at hc
    have h4 : (WTm.not (.lt (.lit (.int (n : Int))) (.len (.arg 0)))).holds [] { args := [.list (ns.map .int)] } = true := by
      have h4 := (holds_andW hc).1
      rw [hn] at h4
      exact h4
    have h5 := condW_of h4 (w_not (w_lt w_lit (w_len_list (w_arg rfl))))
    rw [List.length_map] at h5
    refine Nat.le_of_not_lt fun q => ?_
    have q' : (n : Int) < ((ns.length : Nat) : Int) := by omega
    first
      | (rw [decide_eq_true q'] at h5; exact absurd h5 (by decide))
      | (simp at h5; omega)
  cases hwl with
  | cons w1 w2 =>
    cases w2
    cases w1 with
    | list ho hall => exact ⟨_, _, ns, rfl, rfl, ho, ints_of_wellAll ns _ hall, hlen⟩

theorem post_true (l : OpenLaw) (args : List WData) : l.row.toRowW.claim.post args (.bool true) args = true :=
  postW_of (r := l.row.toRowW) (X := (true == true))
    (show WShape.has [] (.bool true) .bool = true by first | rfl | decide | simp [WShape.has, WShape.arms, WShape.armsAll])
    (show (WTm.eq .res (.lit (.bool true))).value [] { args := args, res := some (.bool true), after := args } = some (.bool (true == true)) from w_eq_bool (w_res rfl) w_lit) rfl

/-! ### the attachment: holds_open's last premise (the goal 'hc' behind k_head) from a wpAny of the law's body -/
theorem attach {l : OpenLaw} {n : Nat} {q : Program} {loose : List Str} {XP : (Str → Option Value) → Heap → Prop} {YP : World → Heap → Prop} {d : DefRec} {x : Str}
    (hn : l.most = some n) (hdf : d.params.defaults = [])
    (hbind : ∀ pm cd doc v : Value, bindArgs (docDef d.name d.params d.body d.scope pm cd doc) ⟨[v], []⟩ = pure [(x, v)])
    (hx : d.scope.names.lookup x = some .local ∨ d.scope.names.lookup x = some .cell)
    (hk : d.scope.kind = .function) (hco : d.scope.isCoroutine = false) (hgen : d.scope.isGenerator = false)
    (body : ∀ (w : World) (s₀ s₁ s : Shared) (mg mb : Str → Option Value) (fa : Addr) (o : Obj) (pm cd doc : Value) (a : Addr) (vs : List Value) (ns : List Int),
      Ground q loose [] XP w s₀ mg mb s₁.heap → YP w s₁.heap →
      s₁.heap.get? fa = some o → o.data = .func (docDef d.name d.params d.body d.scope pm cd doc) → s₁.heap.CodeRec cd d.name → mg d.name = some (.ref fa) →
      s₁.heap.get? a = some { cls := .type "list", data := .seq vs.toArray } → IntsAre vs ns → ns.length ≤ n →
      s.gens = #[] → s.os = s₁.os →
      Fr s₁.heap s₁.heap.objs.size s.heap (bindL (envOfC d.name d.scope s₁.heap.objs.size fa cd).kindOf [(x, .ref a)] fun _ => none) →
      Cl s₁.heap.objs.size (cellsFrom (s₁.heap.objs.size + 1) d.scope.names []) s.heap (bindC (envOfC d.name d.scope s₁.heap.objs.size fa cd).kindOf [(x, .ref a)] fun _ => none) →
      wpAny (model l.prog w) (callerA.deeper (envOfC d.name d.scope s₁.heap.objs.size fa cd)) (execs d.body (envOfC d.name d.scope s₁.heap.objs.size fa cd))
        (fun f s' => f = .ret (.bool true) ∧ OldK s₁.heap s'.heap ∧ s'.os = s₁.os ∧ AllBare s'.gens) (fun _ _ => False) s) :
    WalkO q loose XP YP l.row.toRowW d [] (fun f vs => PySem.call f vs) := by
  intro w s₀ s₁ mg mb G Y fa o pm cd doc dV kV ho hd hcd hD hmg hg args vals as hpre hlay hrd hwl hlo
  obtain rfl : dV = .none := Dflts.none hD hdf
  obtain rfl : kV = .none := Dflts.noKw hD
  obtain ⟨a, vs, ns, rfl, rfl, hobj, hints, hlen⟩ := script_of hn hpre hwl
  refine enter_call ?_
  refine call_cells_ret (o := o) (by rw [depth_caller]; decide) ho (fd_plain hd) G.T.nolimit hcd (hbind pm cd doc (.ref a)) (fun y hy => ?_) (fun h₁ tk F X => ?_) hco hgen hk
  · obtain rfl : y = (x, Value.ref a) := List.mem_singleton.mp hy
    rcases hx with e | e
    · exact .inl e
    · exact .inr ⟨e, cellsFrom_some _ _ _ (.inl e)⟩
  · refine wpAny_mono (body w s₀ s₁ { s₁ with heap := h₁, toks := tk } mg mb fa o pm cd doc a vs ns G Y ho (fd_plain hd) hcd hmg hobj hints hlen hg rfl F X) (fun f s' hq => ?_) (fun _ _ hq => hq)
    obtain ⟨rfl, h2, h3, h4⟩ := hq
    exact ⟨.inl ⟨.bool true, .bool true, [], rfl, fun _ => rfl, .bool true, post_true l _, fun _ => ⟨List.Pairwise.nil, fun _ hm => (nomatch hm)⟩⟩, h2, h3, h4⟩

/-- the same from a codeAny of the CALL (for a layer whose function contracts speak of calls) -/
theorem attach_call {l : OpenLaw} {n : Nat} {q : Program} {loose : List Str} {XP : (Str → Option Value) → Heap → Prop} {YP : World → Heap → Prop} {d : DefRec}
    (hn : l.most = some n) (hdf : d.params.defaults = [])
    (call : ∀ (w : World) (s₀ s₁ : Shared) (mg mb : Str → Option Value) (fa : Addr) (o : Obj) (pm cd doc : Value) (a : Addr) (vs : List Value) (ns : List Int),
      Ground q loose [] XP w s₀ mg mb s₁.heap → YP w s₁.heap →
      s₁.heap.get? fa = some o → o.data = .func (docDef d.name d.params d.body d.scope pm cd doc) → s₁.heap.CodeRec cd d.name → mg d.name = some (.ref fa) →
      s₁.heap.get? a = some { cls := .type "list", data := .seq vs.toArray } → IntsAre vs ns → ns.length ≤ n → s₁.gens = #[] →
      codeAny (model l.prog w) callerA (.call (.ref fa) ⟨[.ref a], []⟩) (fun r s' => r = .ok (.ret (.bool true)) ∧ OldK s₁.heap s'.heap ∧ s'.os = s₁.os ∧ AllBare s'.gens) s₁) :
    WalkO q loose XP YP l.row.toRowW d [] (fun f vs => PySem.call f vs) := by
  intro w s₀ s₁ mg mb G Y fa o pm cd doc dV kV ho hd hcd hD hmg hg args vals as hpre hlay hrd hwl hlo
  obtain rfl : dV = .none := Dflts.none hD hdf
  obtain rfl : kV = .none := Dflts.noKw hD
  obtain ⟨a, vs, ns, rfl, rfl, hobj, hints, hlen⟩ := script_of hn hpre hwl
  refine enter_call (codeAny_mono (call w s₀ s₁ mg mb fa o pm cd doc a vs ns G Y ho (fd_plain hd) hcd hmg hobj hints hlen hg) fun r s' hq => ?_)
  obtain ⟨rfl, h2, h3, h4⟩ := hq
  exact ⟨.inl ⟨.bool true, .bool true, [], rfl, fun _ => rfl, .bool true, post_true l _, fun _ => ⟨List.Pairwise.nil, fun _ hm => (nomatch hm)⟩⟩, h2, h3, h4⟩

/-- the same where the top left finished generators (o_head chose holds_openN): nothing may have changed at all and no generator may be left -/
theorem attachN {l : OpenLaw} {n : Nat} {q : Program} {loose : List Str} {XP : (Str → Option Value) → Heap → Prop} {YP : World → Heap → Prop} {d : DefRec} {x : Str}
    (hn : l.most = some n) (hdf : d.params.defaults = [])
    (hbind : ∀ pm cd doc v : Value, bindArgs (docDef d.name d.params d.body d.scope pm cd doc) ⟨[v], []⟩ = pure [(x, v)])
    (hx : d.scope.names.lookup x = some .local ∨ d.scope.names.lookup x = some .cell)
    (hk : d.scope.kind = .function) (hco : d.scope.isCoroutine = false) (hgen : d.scope.isGenerator = false)
    (body : ∀ (w : World) (s₀ s₁ s : Shared) (mg mb : Str → Option Value) (fa : Addr) (o : Obj) (pm cd doc : Value) (a : Addr) (vs : List Value) (ns : List Int),
      Ground q loose [] XP w s₀ mg mb s₁.heap → YP w s₁.heap →
      s₁.heap.get? fa = some o → o.data = .func (docDef d.name d.params d.body d.scope pm cd doc) → s₁.heap.CodeRec cd d.name → mg d.name = some (.ref fa) →
      s₁.heap.get? a = some { cls := .type "list", data := .seq vs.toArray } → IntsAre vs ns → ns.length ≤ n →
      s.gens = #[] → s.os = s₁.os →
      Fr s₁.heap s₁.heap.objs.size s.heap (bindL (envOfC d.name d.scope s₁.heap.objs.size fa cd).kindOf [(x, .ref a)] fun _ => none) →
      Cl s₁.heap.objs.size (cellsFrom (s₁.heap.objs.size + 1) d.scope.names []) s.heap (bindC (envOfC d.name d.scope s₁.heap.objs.size fa cd).kindOf [(x, .ref a)] fun _ => none) →
      wpAny (model l.prog w) (callerA.deeper (envOfC d.name d.scope s₁.heap.objs.size fa cd)) (execs d.body (envOfC d.name d.scope s₁.heap.objs.size fa cd))
        (fun f s' => f = .ret (.bool true) ∧ (∀ b o, s₁.heap.get? b = some o → s'.heap.get? b = some o) ∧ s'.os = s₁.os ∧ s'.gens = #[]) (fun _ _ => False) s) :
    WalkN q loose XP YP l.row.toRowW d [] (fun f vs => PySem.call f vs) := by
  intro w s₀ s₁ mg mb G Y fa o pm cd doc dV kV ho hd hcd hD hmg hg args vals as hpre hlay hrd hwl hlo
  obtain rfl : dV = .none := Dflts.none hD hdf
  obtain rfl : kV = .none := Dflts.noKw hD
  obtain ⟨a, vs, ns, rfl, rfl, hobj, hints, hlen⟩ := script_of hn hpre hwl
  refine enter_callW ?_
  refine call_cells_ret (o := o) (by rw [depth_caller]; decide) ho (fd_plain hd) G.T.nolimit hcd (hbind pm cd doc (.ref a)) (fun y hy => ?_) (fun h₁ tk F X => ?_) hco hgen hk
  · obtain rfl : y = (x, Value.ref a) := List.mem_singleton.mp hy
    rcases hx with e | e
    · exact .inl e
    · exact .inr ⟨e, cellsFrom_some _ _ _ (.inl e)⟩
  · refine wpAny_mono (body w s₀ s₁ { s₁ with heap := h₁, toks := tk } mg mb fa o pm cd doc a vs ns G Y ho (fd_plain hd) hcd hmg hobj hints hlen hg rfl F X) (fun f s' hq => ?_) (fun _ _ hq => hq)
    obtain ⟨rfl, h2, h3, h4⟩ := hq
    exact ⟨.inl ⟨.bool true, .bool true, [], rfl, fun _ => rfl, .bool true, post_true l _, fun _ => ⟨List.Pairwise.nil, fun _ hm => (nomatch hm)⟩⟩, h2, h3, h4⟩

/-! ### rules over ANY heap (no ledger) from facts about the written part K: the library's own take a ledger (News) for what they write -/
section
variable {prog : Program} {w : World} {A : Around} {E : Value → Shared → Prop} {s : Shared} {K : Frag}

/-- a def of the module, or a method (qual 'C.m'), entered: the frame is the next address; cells behind it -/
theorem call_fn {R : Result → Shared → Prop} {name qual : Str} {params : Arguments} {body : List Stmt} {scope : Scope} {dV kV doc pm cdv ct oc : Value} {an od : Option Addr} {osl : Array (Option Value)} {f : Addr} {args : Args} {binds : List (Str × Value)}
    (X : K.In s.heap) (hlim : s.heap.NoLimit) (ho : K.lookup f = some ⟨oc, od, .func (fnOf name qual params body scope dV kV doc pm an cdv ct), osl⟩) (hcd : codeIn K cdv qual = true) (hroom : A.depth < recursionLimit)
    (hbind : BindsTo s (fnOf name qual params body scope dV kV doc pm an cdv ct) args binds)
    (hkind : (binds.all fun y => scope.names.lookup y.1 == some .local || scope.names.lookup y.1 == some .cell) = true)
    (h : ∀ s₁, InCallC s s.heap.objs.size (bindL (envOfC qual scope s.heap.objs.size f cdv).kindOf binds fun _ => none) (cellsFrom (s.heap.objs.size + 1) scope.names [])
        (bindC (envOfC qual scope s.heap.objs.size f cdv).kindOf binds fun _ => none) s₁ →
      wpAny (model prog w) (A.deeper (envOfC qual scope s.heap.objs.size f cdv)) (execs body (envOfC qual scope s.heap.objs.size f cdv))
        (fun fl s' => R (.ok (.ret (match fl with | .ret v => v | _ => .none))) s')
        (fun e s' => wpAny (model prog w) (A.deeper (envOfC qual scope s.heap.objs.size f cdv)) (leaving (envOfC qual scope s.heap.objs.size f cdv) e) (fun _ s'' => R (.error e) s'') (fun e' s'' => R (.error e') s'') s') s₁)
    (hco : scope.isCoroutine = false) (hgen : scope.isGenerator = false) (hk : scope.kind = .function) : codeAny (model prog w) A (.call (.ref f) args) R s := by
  refine codeAny_call_function hroom (X _ _ ho) rfl hco hgen rfl (codeRec_of X hcd) (hbind _ _ _ _ ?_)
  refine wpAny_newFunctionEnv_cells hk (kindsX hkind _) fun env he s₁ x => ?_
  subst he
  exact ⟨hlim.keeps x.toInCall.keep, codeAny_func (h s₁ x)⟩

/-- C(..): dict at size, instance at size + 1, then __init__ -/
theorem make_obj {R : Result → Shared → Prop} {C fI : Addr} {rest : List Value} {kw : List (Str × Value)}
    (X : K.In s.heap) (hm : makesIn K C = true) (hi : findIn K (.ref C) "__init__" = some (some (.ref fI))) (hf : isFn K (.ref fI) = true)
    (h : codeAny (model prog w) (A.under (.builtin "type.__call__" ⟨.ref C :: rest, kw⟩)) (.call (.ref fI) ⟨.ref (s.heap.objs.size + 1) :: rest, kw⟩) (InitBack (s.heap.objs.size + 1) R)
      { s with heap := (s.heap.push emptyDict).push (instObj C s.heap.objs.size) }) : codeAny (model prog w) A (.call (.ref C) ⟨rest, kw⟩) R s := by
  obtain ⟨hh, g, d, t, os⟩ := s
  exact make_core (makes_of X hm) (looks_findIn X hi) (fun self => bind_fn X self (beq_iff_eq.mp hf)) (.inl rfl) h

/-- x.name where the instance's dict holds the name and the class does not -/
theorem get_field {x C : Addr} {ox : Obj} {es : List DictEntry} {n : Nat} {name : Str} {expr : Bool} {v : Value} {Q : Value → Shared → Prop}
    (X : K.In s.heap) (I : PySem.W.InstAt s.heap x ox C (some (dictOf es n))) (hg : plainGet K C name = true) (hh : hasDictIn K C = true) (ha : findIn K (.ref C) name = some none)
    (hl : getL name es = some (some v)) (hv : handedIn v = true) (h : Q v { s with toks := s.toks + 1 }) : wpAny (model prog w) A (getAttr (.ref x) name expr) Q E s :=
  get_value X I (plainGet_of hg).1 (findObj_own hh ha rfl hl) hv h

/-- x.m(..): the method found in the class -/
theorem get_method {x C f : Addr} {ox : Obj} {es : List DictEntry} {n : Nat} {name : Str} {pl : Sem Bool} {Q : Value × List Value → Shared → Prop}
    (X : K.In s.heap) (I : PySem.W.InstAt s.heap x ox C (some (dictOf es n))) (hg : plainGet K C name = true) (hf : findIn K (.ref C) name = some (some (.ref f))) (ht : isFn K (.ref f) = true)
    (hl : getL name es = some none) (h : Q (.ref f, [.ref x]) s) : wpAny (model prog w) A (getMethod (.ref x) name pl) Q E s :=
  method_fn X I (plainGet_of hg).1 (plainGet_of hg).2 hf (beq_iff_eq.mp ht) (by show (lookIn name (dictOf es n)).map _ = _; rw [lookIn_dict, hl]; rfl) h

/-! the whole heap as the ledger: makes every rule that writes through a ledger a rule over any heap -/
def noObjs (h : Heap) : Heap := { h with objs := #[] }
theorem noObjs_get (h : Heap) (b : Addr) : (noObjs h).get? b = none := by
  cases e : (noObjs h).get? b with
  | none => rfl
  | some o => exact absurd (Heap.lt_size e) (Nat.not_lt_zero _)
def ledger (h : Heap) (L d : Addr) : List (Addr × Obj) := (List.range h.objs.size).filterMap fun a => if a = L ∨ a = d then none else (h.get? a).map fun o => (a, o)
theorem mem_ledger {h : Heap} {L d a : Addr} {o : Obj} : (a, o) ∈ ledger h L d ↔ a ≠ L ∧ a ≠ d ∧ h.get? a = some o := by
  unfold ledger
  rw [List.mem_filterMap]
  constructor
  · rintro ⟨b, _, e⟩
    split at e
    · cases e
    · rename_i hb
      obtain ⟨o', ho, e'⟩ := Option.map_eq_some_iff.mp e
      cases e'
      exact ⟨fun q => hb (.inl q), fun q => hb (.inr q), ho⟩
  · rintro ⟨n1, n2, ho⟩
    refine ⟨a, List.mem_range.mpr (Heap.lt_size ho), ?_⟩
    rw [if_neg (show ¬ (a = L ∨ a = d) from fun q => q.elim n1 n2), ho] <;> rfl
theorem news_ledger {h : Heap} {L d : Addr} {od : Obj} (hne : d ≠ L) (ho : h.get? d = some od) : News (noObjs h) L h ([] ++ (d, od) :: ledger h L d) := by
  rintro ⟨a, o⟩ hp
  rcases List.mem_cons.mp hp with e | hp
  · cases e
    exact ⟨ho, hne, noObjs_get _ _⟩
  · obtain ⟨n1, n2, e⟩ := mem_ledger.mp hp
    exact ⟨e, n1, noObjs_get _ _⟩
theorem fr_all {h : Heap} {L : Addr} {m : Str → Option Value} (n : h.Ns L m) : Fr (noObjs h) L h m :=
  ⟨n, fun b o e => (by rw [noObjs_get] at e; cases e), Nat.zero_le _⟩
/-- Upd of the head entry (for append_K, setItem_K ..) -/
theorem upd_ledger {h : Heap} {L d : Addr} {o o' : Obj} : Upd d o o' ((d, o) :: ledger h L d) ((d, o') :: ledger h L d) :=
  .head fun ⟨_, _⟩ hp => (mem_ledger.mp hp).2.1

/-- x.name = v over any heap: L is any namespace of the heap (the frame's, say): its map stays, its object is not told; all else but the dict stays -/
theorem set_field {x C dx L : Addr} {ox : Obj} {m : Str → Option Value} {es es' : List DictEntry} {n n' : Nat} {name : Str} {v : Value} {Q : Unit → Shared → Prop}
    (X : K.In s.heap) (I : PySem.W.InstAt s.heap x ox C (some (dictOf es n))) (hd : ox.dict = some dx) (hL : s.heap.Ns L m) (hne : dx ≠ L)
    (hs : findIn K (.ref C) "__setattr__" = some (some (.builtin "object.__setattr__"))) (hp : plainOver K C = true) (ht : takerIn K C name = some none) (hh : hasDictIn K C = true) (hl : (getL name es).isSome = true)
    (e : (putL name (PyData.keyHash w.params name) (.str name (s.toks + 1)) v es, putN name es n) = (es', n')) (hz : es'.length ≤ 1000)
    (h : ∀ h' : Heap, h'.Ns L m → h'.get? dx = some (dictOf es' n') → (∀ b o, b ≠ dx → b ≠ L → s.heap.get? b = some o → h'.get? b = some o) → Q () { s with heap := h', toks := s.toks + 2 }) :
    wpAny (model prog w) A (setAttr (.ref x) name v) Q E s := by
  obtain ⟨e1, e2⟩ := Prod.mk.inj e
  have hdx : s.heap.get? dx = some (dictOf es n) := by
    have := I.dict
    rw [hd] at this
    exact this
  refine set_plain X I hs (osa_dict (s := { s with toks := s.toks + 1 }) (h₀ := noObjs s.heap) (L := L) (m := m) (od := dictOf es n) (od' := dictOf es' n') (es := es') (n := n') (pre := []) (post := ledger s.heap L dx)
    (fr_all hL) (news_ledger hne hdx) X I hd hp ht hh hl (fun _ q => nomatch q) (fun ⟨_, _⟩ q => (mem_ledger.mp q).2.1) (by rw [putName_dict, e1, e2]) rfl hz fun h' F' N' => ?_)
  exact h h' F'.ns (N'.get (List.Mem.head _)) fun b o n1 n2 ho => N'.get (List.Mem.tail _ (mem_ledger.mpr ⟨n2, n1, ho⟩))
end
end Att

namespace L2
open PySem PySem.Spec PyProof.Rows

theorem vals_ints : ∀ {vs : List Value} {ns : List Int}, IntsAre vs ns → Vals (ns.map V.int) vs
  | _, _, .nil => .nil
  | _, _, .cons n t h => .cons ⟨t, rfl⟩ (vals_ints h)

/-- nothing is tracked but the script, known to the object (or it is an object of the module) -/
def Only (H : Hp) : Prop := ∀ b, H b = none ∨ ∃ o xs, H b = some (.frz o (.lst xs))

/-- THE HEAD: the law's promise, at the heap behind the top. F, the promise of the law's def, may use that base is part of the heap (so K.In base, base.Ns mainGlobals mg stand in Mod) -/
theorem law_call {P : Program} {w : World} {K : PySem.W.Frag} {mg mb : Str → Option Value} {CX : CXT} {k : Nat} {fa a : Addr} {fd : FuncData} {x : Str} {sp : Sp} {s₁ : Shared} {vs : List Value} {ns : List Int}
    (KX : K.In s₁.heap) (hns : s₁.heap.Ns mainGlobals mg) (hb : s₁.heap.Ns builtinsNs mb) (hbb : ∀ x : Str, x ≠ "__name__" → mb x = bootBuiltins x) (hlim : s₁.heap.NoLimit) (hg : s₁.gens = #[])
    (ha : s₁.heap.get? a = some { cls := .type "list", data := .seq vs.toArray }) (hi : IntsAre vs ns) (hl : ns.length ≤ sizeLine) (hr : Room k callerA)
    (F : ∀ base : Heap, K.In base → base.Ns mainGlobals mg → FnOk P w K mg base CX k fa fd [x] sp) (hbind : ∀ (s : Shared) (u : Value), BindsTo s fd ⟨[u], []⟩ [(x, u)])
    (hsp : ∀ H : Hp, Only H → SqL K H a (ns.map V.int) → sp [.ref a] H (fun v _ => v = .bl true) fun _ _ _ => False)
    (hCX : ∀ H e s', CX [] H s₁ (fun _ _ _ => False) e s' → False) :
    codeAny (model P w) callerA (.call (.ref fa) ⟨[.ref a], []⟩) (fun r s' => r = .ok (.ret (.bool true)) ∧ OldK s₁.heap s'.heap ∧ s'.os = s₁.os ∧ AllBare s'.gens) s₁ := by
  have rv := vals_ints hi
  have lenV := hi.length
  -- from an abstract heap in which nothing but the script may be tracked
  have core : ∀ H : Hp, Only H → SqL K H a (ns.map V.int) → HOk P w H s₁.heap → (∀ b, H b ≠ none → b = a) → (H a ≠ none → K.lookup a = none) →
      codeAny (model P w) callerA (.call (.ref fa) ⟨[.ref a], []⟩) (fun r s' => r = .ok (.ret (.bool true)) ∧ OldK s₁.heap s'.heap ∧ s'.os = s₁.os ∧ AllBare s'.gens) s₁ := by
    intro H hO hS hok hA hK
    have base_of : ∀ {b : Addr} {o : Obj}, s₁.heap.get? b = some o → H b = none → (hidT s₁.heap H).get? b = some o := fun e n => hidT_get e n
    have noA : ∀ {b : Addr} {o : Obj} {es : Array DictEntry} {ep : Nat}, s₁.heap.get? b = some o → o.data = .dict es ep → H b = none := fun {b o es ep} e d => by
      cases q : H b with
      | none => rfl
      | some u =>
        have e' : b = a := hA b (by rw [q]; simp)
        subst e'
        rw [ha] at e; cases e
        have d' : Data.seq vs.toArray _ = Data.dict es ep := d
        cases d'
    have nsK : ∀ {b : Addr} {m : Str → Option Value}, s₁.heap.Ns b m → (hidT s₁.heap H).Ns b m := fun {b m} ⟨o, es, ep, e, d, r⟩ => ⟨o, es, ep, base_of e (noA e d), d, r⟩
    have hKb : K.In (hidT s₁.heap H) := fun b o e => base_of (KX b o e) (by
      cases q : H b with
      | none => rfl
      | some u =>
        have e' : b = a := hA b (by rw [q]; simp)
        subst e'
        rw [hK (by rw [q]; simp)] at e; cases e)
    have hM : Mod K mg (hidT s₁.heap H) := ⟨hKb, nsK hns, ⟨mb, nsK hb, hbb⟩, let ⟨mc, h1, h2⟩ := hlim; ⟨mc, nsK h1, h2⟩⟩
    have e0 : Env0 P w K mg (hidT s₁.heap H) callerA [] s₁ H := ⟨rfl, hM, fun b o e => of_hidT e, Nat.le_of_eq (hidT_size _ _), trivial, fun b hb => absurd (show b ∈ ([] : List Addr) from hb) (by simp), hok, .of_eq hg⟩
    refine codeAny_mono ((F _ hKb (nsK hns)).run callerA [] s₁ H ⟨[.ref a], []⟩ [.ref a] [.ref a] _ _ hr e0 (hbind s₁ (.ref a)) (.cons rfl .nil) (hsp H hO hS)) fun r s' h => ?_
    cases r with
    | error e => exact (hCX H e s' h).elim
    | ok fl =>
      cases fl with
      | next => exact False.elim h
      | brk => exact False.elim h
      | cont => exact False.elim h
      | ret u =>
        obtain ⟨v, H', os, bare, un, hok', r', q⟩ := h
        have q' : v = .bl true := q
        subst q'
        obtain rfl : u = Value.bool true := r'
        refine ⟨rfl, OldK.of_keep fun b o e => ?_, os, bare⟩
        cases q : H b with
        | none => exact un.keep b o e q (by intro z; exact absurd (show b ∈ ([] : List Addr) from z) (by simp)) (by simp)
        | some u =>
          rcases hO b with z | ⟨ob, xs, z⟩
          · rw [q] at z; cases z
          · have z2 := un.frzs b ob _ z
            obtain ⟨e1, _⟩ := hok b _ z
            obtain ⟨e2, _⟩ := hok' b _ z2
            rw [e] at e1; cases e1
            exact e2
  cases hk : K.lookup a with
  | some o =>
    -- the script is one of the module's own objects
    have e := KX a o hk
    rw [ha] at e
    cases e
    refine core (fun _ => none) (fun _ => .inl rfl) (.inr ⟨_, vs.toArray, _, hk, rfl, rfl, rfl, by rw [List.size_toArray, lenV]; exact hl, by simpa using rv⟩) (fun b u z => by have z' : (none : Option HO) = some u := z; cases z') (fun b z => absurd rfl z) fun z => absurd rfl z
  | none =>
    refine core (fun b => if b = a then some (.frz { cls := .type "list", data := .seq vs.toArray } (.lst (ns.map V.int))) else none) (fun b => ?_) (.inl (.inr ⟨{ cls := .type "list", data := .seq vs.toArray }, if_pos rfl⟩)) (fun b u z => ?_) (fun b z => ?_) fun _ => hk
    · by_cases hb : b = a
      · exact .inr ⟨_, _, if_pos hb⟩
      · exact .inl (if_neg hb)
    · by_cases hb : b = a
      · have z' := (if_pos hb).symm.trans z
        cases z'
        subst hb
        exact ⟨ha, by rw [List.length_map]; exact hl, vs, _, rv, ha⟩
      · have z' := (if_neg hb).symm.trans z
        cases z'
    · by_cases hb : b = a
      · exact hb
      · exact absurd (if_neg hb) z
end L2

namespace L2
open PySem PySem.Spec PyProof.Rows

abbrev KOf {K : PySem.W.Frag} {h : Heap} (_ : K.In h) : PySem.W.Frag := K

/-- the goal that k_head leaves (case hc), from the law's promise. F gives the function object fd (K's own) once, then the promise over every base -/
theorem walk_of {l : PySem.W.OpenLaw} {n k : Nat} {q : Program} {loose : List Str} {XP : (Str → Option Value) → Heap → Prop} {YP : World → Heap → Prop} {d : DefRec} {K : Params → PySem.W.Frag} {CX : World → CXT} {sp : World → Sp} {x : Str}
    (hn : l.most = some n) (hn2 : n ≤ sizeLine) (hdf : d.params.defaults = []) (hr : Room k callerA)
    (hY : ∀ (w : World) (h : Heap), YP w h → (K w.params).In h)
    (F : ∀ (w : World) (mg : Str → Option Value) (fa : Addr) (h : Heap), (K w.params).In h → h.Ns mainGlobals mg → mg d.name = some (.ref fa) →
      ∃ fd : FuncData, (∀ (s : Shared) (u : Value), BindsTo s fd ⟨[u], []⟩ [(x, u)]) ∧
        ∀ base : Heap, (K w.params).In base → base.Ns mainGlobals mg → FnOk l.prog w (K w.params) mg base (CX w) k fa fd [x] (sp w))
    (hsp : ∀ (w : World) (H : Hp) (a : Addr) (ns : List Int), ns.length ≤ n → Only H → SqL (K w.params) H a (ns.map V.int) → sp w [.ref a] H (fun v _ => v = .bl true) fun _ _ _ => False)
    (hCX : ∀ (w : World) (H : Hp) (s : Shared) (e : Value) (s' : Shared), CX w [] H s (fun _ _ _ => False) e s' → False) :
    PySem.W.WalkO q loose XP YP l.row.toRowW d [] (fun f vs => PySem.call f vs) := by
  refine Att.attach_call hn hdf fun w s₀ s₁ mg mb fa o pm cd doc a vs ns G Y ho hd hcd hmg hobj hints hlen hg => ?_
  have KX := hY w _ Y
  obtain ⟨fd, hb, hF⟩ := F w mg fa _ KX G.T.g hmg
  exact law_call KX G.T.g G.T.b G.T.builtins G.T.nolimit hg hobj hints (Nat.le_trans hlen hn2) hr hF hb (fun H hO hS => hsp w H a ns hlen hO hS) fun H e s' => hCX w H s₁ e s'
/-- the same where the promise hangs on the written part alone: (sp := My.sp_law), no hole under a binder -/
theorem walk_ofK {l : PySem.W.OpenLaw} {n k : Nat} {q : Program} {loose : List Str} {XP : (Str → Option Value) → Heap → Prop} {YP : World → Heap → Prop} {d : DefRec} {K : Params → PySem.W.Frag} {CX : CXT} {sp : PySem.W.Frag → Sp} {x : Str}
    (hn : l.most = some n) (hn2 : n ≤ sizeLine) (hdf : d.params.defaults = []) (hr : Room k callerA)
    (hY : ∀ (w : World) (h : Heap), YP w h → (K w.params).In h)
    (F : ∀ (w : World) (mg : Str → Option Value) (fa : Addr) (h : Heap), (K w.params).In h → h.Ns mainGlobals mg → mg d.name = some (.ref fa) →
      ∃ fd : FuncData, (∀ (s : Shared) (u : Value), BindsTo s fd ⟨[u], []⟩ [(x, u)]) ∧
        ∀ base : Heap, (K w.params).In base → base.Ns mainGlobals mg → FnOk l.prog w (K w.params) mg base CX k fa fd [x] (sp (K w.params)))
    (hsp : ∀ (K : PySem.W.Frag) (H : Hp) (a : Addr) (ns : List Int), ns.length ≤ n → Only H → SqL K H a (ns.map V.int) → sp K [.ref a] H (fun v _ => v = .bl true) fun _ _ _ => False)
    (hCX : ∀ (H : Hp) (s : Shared) (e : Value) (s' : Shared), CX [] H s (fun _ _ _ => False) e s' → False) :
    PySem.W.WalkO q loose XP YP l.row.toRowW d [] (fun f vs => PySem.call f vs) :=
  walk_of (K := K) (CX := fun _ => CX) (sp := fun w => sp (K w.params)) hn hn2 hdf hr hY F (fun w H a ns h1 h2 h3 => hsp (K w.params) H a ns h1 h2 h3) fun _ H s e s' => hCX H s e s'
end L2

/- THE LAST THEOREM (shape; LID, My.* are yours):
   My.Adr: a structure of the addresses that your layer names (classes, functions); My.Txt K t: a structure (Prop) of the equations over K;
   My.txt_mk : {K} {implicit addresses ..} (e1 : nsIn K mainGlobals "law" = some (some (.ref f))) (e2 : K.lookup f = some ⟨oc, od, .func (fnOf "law" "law" params body scope dV kV doc pm an cdv ct), sl⟩) (e3 : codeIn K cdv "law" = true) .. : ∃ t, My.Txt K t

set_option maxRecDepth 100000 in
set_option maxHeartbeats 0 in
theorem PySem.Challenge.cw_LID_holds : PySem.Challenge.rw_LID.Holds := by
  w_on; o_law; k_head; (case hw => w_witness2)
  k_fill
  refine L2.walk_of (l := PySem.Challenge.rw_LID) (n := 63) (k := 40) (x := "script") (CX := fun w => ..) (sp := fun _ => My.sp_law) rfl (by decide) rfl ⟨rfl, by decide, by decide⟩ (fun w h Y => PySem.W.kIn_of Y) ?F ?S ?C
  case F =>
    intro w mg fa h KX G hmg
    have T : ∃ t, My.Txt (L2.KOf KX) t := by
      dsimp only [L2.KOf]                          -- K must stand as «<heap const> w.params» for k_is
      refine' My.txt_mk ?e1 ?e2 ?e3 ..
      (case e1 => PySem.W.k_is)                    -- in the order: a name -> its address -> its object -> its parts
      (case e2 => PySem.W.k_is)
      ..
    obtain ⟨t, T⟩ := T
    have e0 := hmg.symm.trans (PySem.W.mg_of KX G T.law)
    cases e0                                       -- fa is the law's own address
    exact ⟨_, fun s u => .of_eq rfl, fun base kb nb => My.law_fn T kb nb⟩     -- if «.of_eq rfl» comes too early: refine' ⟨_, ?b, fun base kb nb => My.law_fn T kb nb⟩; exact fun s u => .of_eq rfl
  case S => exact fun w H a ns hl hO hS => ..
  case C => exact ..
(the tactic k_is has no namespace: write k_is) -/

/-! SHORT WORDS over the layer: a def of the text, its body, what a loop and a test want. -/
namespace L2
open PySem PySem.Spec PyProof.Rows

/-! ### the text by places -/
/-- the j-th statement of a class's body -/
def inClass (s : Stmt) (j : Nat) : Stmt := match s with
  | .ClassDef _ _ _ body _ _ _ _ _ _ _ => body.getD j (.Pass ⟨0, 0, 0, 0⟩)
  | _ => .Pass ⟨0, 0, 0, 0⟩
def defArgs (s : Stmt) : Arguments := match s with
  | .FunctionDef _ a _ _ _ _ _ _ _ _ => a
  | _ => { posonlyargs := [], args := [], vararg := none, kwonlyargs := [], kw_defaults := [], kwarg := none, defaults := [] }
def defBody (s : Stmt) : List Stmt := match s with
  | .FunctionDef _ _ b _ _ _ _ _ _ _ => b
  | _ => []
def defScope (s : Stmt) : Scope := match s with
  | .FunctionDef _ _ _ _ _ _ sc _ _ _ => sc
  | _ => { kind := .function, names := [], isGenerator := false, isCoroutine := false }

/-! ### no exception leaves a def -/
abbrev CX0 : CXT := fun _ _ _ _ _ _ => False
abbrev E0 : XK := fun _ _ _ => False
theorem pass0 {X : Cx} : Passes CX0 X E0 := fun _ _ _ _ _ _ _ h => h.elim

/-! ### a def (or method) of the text as it stands behind the top -/
structure Fun (K : PySem.W.Frag) (x qual : Str) (st : Stmt) (f : Addr) (fd : FuncData) : Prop where
  ex : ∃ (oc : Value) (od : Option Addr) (kV doc pm : Value) (an : Option Addr) (cdv ct : Value) (osl : Array (Option Value)),
    fd = PySem.W.fnOf x qual (defArgs st) (defBody st) (defScope st) .none kV doc pm an cdv ct ∧ K.lookup f = some ⟨oc, od, .func fd, osl⟩ ∧ PySem.W.codeIn K cdv qual = true
  kp : PySem.W.keepIn K (.ref f) = true
section
variable {P : Program} {w : World} {K : PySem.W.Frag} {mg : Str → Option Value} {base : Heap}
/-- THE RULE for a def: its body as a term of rules, and the reading of that term -/
theorem Fun.ok {x qual : Str} {st : Stmt} {f : Addr} {fd : FuncData} {N ps : List Str} {k : Nat} {sp : Sp} (F : Fun K x qual st f fd) (S : FnScope N ps (defScope st)) (len : ∀ vs H Q E, sp vs H Q E → vs.length = ps.length)
    (hbody : ∀ (cdv : Value) (A : Around) (outer : List Env) (s : Shared) (H : Hp) (vs : List V) (Q : VK) (E : XK), Room k (A.deeper (envOfC qual (defScope st) s.heap.objs.size f cdv)) → sp vs H Q E →
      ∃ t, PSs (cxOf CX0 P w K mg base N qual (defScope st) f cdv A outer s H E).nox (defBody st) t ∧ t { nx := fun _ H' => Q .non H', rt := Q } (start N vs) H) : FnOk P w K mg base CX0 (k + 1) f fd ps sp := by
  obtain ⟨oc, od, kV, doc, pm, an, cdv, ct, osl, rfl, lk, hcd⟩ := F.ex
  refine fn_of lk hcd S len fun A outer s H vs Q E hr hsp => ?_
  obtain ⟨t, h, q⟩ := hbody cdv A outer s H vs Q E hr hsp
  exact ⟨t, h.nox, q⟩
/-- how its arguments bind (no defaults): h is «fun _ _ _ _ _ _ us hl => match us, hl with | [_, _], _ => rfl», one _ a parameter -/
theorem Fun.binds {x qual : Str} {st : Stmt} {f : Addr} {fd : FuncData} {ps : List Str} (F : Fun K x qual st f fd)
    (h : ∀ (kV doc pm : Value) (an : Option Addr) (cdv ct : Value) (us : List Value), us.length = ps.length → bindArgs (PySem.W.fnOf x qual (defArgs st) (defBody st) (defScope st) .none kV doc pm an cdv ct) ⟨us, []⟩ = pure (ps.zip us)) : Binds K fd ps [] := by
  obtain ⟨oc, od, kV, doc, pm, an, cdv, ct, osl, rfl, lk, hcd⟩ := F.ex
  exact .all (h kV doc pm an cdv ct)
theorem fun_mk {x qual : Str} {st : Stmt} {f : Addr} {oc : Value} {od an : Option Addr} {osl : Array (Option Value)} {kV doc pm cdv ct : Value} (l : K.lookup f = some ⟨oc, od, .func (PySem.W.fnOf x qual (defArgs st) (defBody st) (defScope st) .none kV doc pm an cdv ct), osl⟩)
    (c : PySem.W.codeIn K cdv qual = true) (k : PySem.W.keepIn K (.ref f) = true) : Fun K x qual st f (PySem.W.fnOf x qual (defArgs st) (defBody st) (defScope st) .none kV doc pm an cdv ct) := ⟨⟨oc, od, kV, doc, pm, an, cdv, ct, osl, rfl, l, c⟩, k⟩
end
theorem hu_of {A : Around} {k : Nat} (hr : Room k A) : A.units + 1 < cLine := Nat.lt_of_le_of_lt (Nat.add_le_add_left (by decide : 1 ≤ 64) _) hr.units
theorem small1000 {n : Nat} (h : n ≤ 1000) : n < sizeLine := Nat.lt_of_le_of_lt h (by decide)

/-! ### expressions in short: the name that stands in the i-th slot -/
section
variable {X : Cx}
theorem pv (i : Nat) {x : Str} {pos : Pos} (hN : X.N[i]? = some x := by rfl) (hv : Vis X.env.scope x := by first | exact Or.inl rfl | exact Or.inr (Or.inl rfl) | exact Or.inr (Or.inr rfl)) (hd : (x == ("__debug__" : Str)) = false := by decide)
    (hcd : (x == ("__classdict__" : Str)) = false := by decide) : PE X (.Name x pos) (tVar i) := pe_var hN hv hd hcd
end

/-! ### tests -/
theorem iteF {A B : Prop} (h : B) : if false = true then A else B := by
  rw [if_neg Bool.false_ne_true]
  exact h
theorem iteT {A B : Prop} (h : A) : if true = true then A else B := by
  rw [if_pos rfl]
  exact h
theorem ite2 {c A B : Prop} [Decidable c] (h1 : c → A) (h2 : ¬ c → B) : if c then A else B := by
  by_cases h : c
  · rw [if_pos h]
    exact h1 h
  · rw [if_neg h]
    exact h2 h
theorem iteNS {c A B : Prop} [Decidable c] (hc : c) (h : B) : if (!decide c) = true then A else B := by
  rw [decide_eq_true hc]
  exact iteF h

/-! ### heaps -/
/-- all that was tracked is as it was -/
def Same (H H' : Hp) : Prop := ∀ b o, H b = some o → H' b = some o
theorem Same.refl (H : Hp) : Same H H := fun _ _ h => h
theorem Same.trans {H H1 H2 : Hp} (a : Same H H1) (b : Same H1 H2) : Same H H2 := fun c o h => b c o (a c o h)
theorem Same.free {H H' : Hp} (e : Same H H') {l : Addr} (h : H' l = Option.none) : H l = Option.none := by
  cases q : H l with
  | none => rfl
  | some o =>
    rw [e l o q] at h
    cases h
theorem Same.seq {K : PySem.W.Frag} {H H' : Hp} {a : Addr} {xs : List V} (e : Same H H') (h : SqL K H a xs) : SqL K H' a xs := by
  rcases h with (h | ⟨o, h⟩) | h
  · exact .inl (.inl (e _ _ h))
  · exact .inl (.inr ⟨o, e _ _ h⟩)
  · exact .inr h

end L2

namespace L2
open PySem PySem.Spec PyProof.Rows
section
variable {X : Cx}
/-- len of a dict -/
theorem call_lenD : CallR X (.builtin "len") (fun xs H Q => ∃ a kvs, xs = [V.ref a] ∧ H a = some (.dK kvs) ∧ Q (.int kvs.length) H) := by
  intro pins s σ H xs us Q I r h
  obtain ⟨a, kvs, rfl, ha, q⟩ := h
  obtain ⟨u, rfl, ru⟩ := vals1 r
  cases ru
  exact d_len I (.inl ha) fun t s' I' => ⟨.int kvs.length, H, I', ⟨t, rfl⟩, q⟩
end
/-! ### a dict's pairs: keys that differ -/
section
variable {κ : Type} [DecidableEq κ]
theorem valV_not {kvs : List (κ × V)} {k : κ} (h : valV kvs k = none) : ¬ k ∈ kvs.map (·.1) := by
  intro m
  obtain ⟨p, hp, e⟩ := List.mem_map.mp m
  have q : (kvs.any fun kv => decide (kv.1 = k)) = true := List.any_eq_true.mpr ⟨p, hp, decide_eq_true e⟩
  rw [valV_any, h] at q
  exact absurd q (by simp)
theorem valV_in {kvs : List (κ × V)} {k : κ} {v : V} (h : valV kvs k = some v) : k ∈ kvs.map (·.1) := by
  have q : (kvs.any fun kv => decide (kv.1 = k)) = true := by
    rw [valV_any, h]
    all_goals rfl
  obtain ⟨p, hp, e⟩ := List.any_eq_true.mp q
  exact List.mem_map.mpr ⟨p, hp, of_decide_eq_true e⟩
theorem nd_snoc : ∀ {l : List κ} {k : κ}, l.Nodup → ¬ k ∈ l → (l ++ [k]).Nodup
  | [], k, _, _ => by simp
  | a :: r, k, h, hk => by
    obtain ⟨h1, h2⟩ := List.nodup_cons.mp h
    show (a :: (r ++ [k])).Nodup
    refine List.nodup_cons.mpr ⟨fun m => ?_, nd_snoc h2 fun m => hk (List.mem_cons.mpr (Or.inr m))⟩
    rcases List.mem_append.mp m with q | q
    · exact h1 q
    · exact hk (List.mem_cons.mpr (Or.inl (List.mem_singleton.mp q).symm))
theorem nd_putK {kvs : List (κ × V)} {k : κ} (v : V) (hn : (kvs.map (·.1)).Nodup) (h : valV kvs k = none) : ((putK kvs k v).map (·.1)).Nodup := by
  rw [putK_new v h, List.map_append]
  exact nd_snoc hn (valV_not h)
theorem dropK_pos {p : κ × V} {r : List (κ × V)} {k : κ} (e : p.1 = k) : dropK (p :: r) k = dropK r k := by
  unfold dropK
  rw [List.filter_cons, if_neg (by simp [e])]
theorem dropK_neg {p : κ × V} {r : List (κ × V)} {k : κ} (e : ¬ p.1 = k) : dropK (p :: r) k = p :: dropK r k := by
  unfold dropK
  rw [List.filter_cons, if_pos (by simp [e])]
theorem dropK_no : ∀ {kvs : List (κ × V)} {k : κ}, ¬ k ∈ kvs.map (·.1) → dropK kvs k = kvs
  | [], _, _ => rfl
  | p :: r, k, h => by
    have h' : ¬ k ∈ r.map (·.1) := fun m => by
      obtain ⟨q, hq, e⟩ := List.mem_map.mp m
      exact h (List.mem_map.mpr ⟨q, List.mem_cons.mpr (Or.inr hq), e⟩)
    rw [dropK_neg fun e => h (List.mem_map.mpr ⟨p, List.mem_cons.mpr (Or.inl rfl), e⟩), dropK_no h']
theorem dropK_mem {kvs : List (κ × V)} {k : κ} {p : κ × V} (h : p ∈ dropK kvs k) : p ∈ kvs := (List.mem_filter.mp h).1
theorem nd_dropK : ∀ {kvs : List (κ × V)} {k : κ}, (kvs.map (·.1)).Nodup → ((dropK kvs k).map (·.1)).Nodup
  | [], _, _ => List.nodup_nil
  | p :: r, k, h => by
    have h : (p.1 :: r.map (·.1)).Nodup := h
    obtain ⟨h1, h2⟩ := List.nodup_cons.mp h
    by_cases e : p.1 = k
    · rw [dropK_pos e]
      exact nd_dropK h2
    · rw [dropK_neg e]
      show (p.1 :: (dropK r k).map (·.1)).Nodup
      refine List.nodup_cons.mpr ⟨fun m => h1 ?_, nd_dropK h2⟩
      obtain ⟨q, hq, eq⟩ := List.mem_map.mp m
      exact List.mem_map.mpr ⟨q, dropK_mem hq, eq⟩
theorem dropK_len : ∀ {kvs : List (κ × V)} {k : κ}, (kvs.map (·.1)).Nodup → k ∈ kvs.map (·.1) → (dropK kvs k).length + 1 = kvs.length
  | [], _, _, m => by simp at m
  | p :: r, k, h, m => by
    have h : (p.1 :: r.map (·.1)).Nodup := h
    have m : k = p.1 ∨ k ∈ r.map (·.1) := List.mem_cons.mp m
    obtain ⟨h1, h2⟩ := List.nodup_cons.mp h
    by_cases e : p.1 = k
    · subst e
      rw [dropK_pos rfl, dropK_no h1]
      all_goals rfl
    · have m' : k ∈ r.map (·.1) := m.resolve_left fun z => e z.symm
      have q := dropK_len h2 m'
      rw [dropK_neg e, List.length_cons, List.length_cons]
      omega
end
end L2

namespace L3
open PySem PySem.Spec PyProof.Rows L2
abbrev St := L2.St
theorem same_upd {B H : Hp} {l : Addr} {o : HO} (h : Same B H) (n : B l = none) : Same B (upd H l o) := fun b u e => by
  rw [upd_ne (ne_of_none e n)]; exact h b u e
theorem same_new {H : Hp} {l : Addr} {o : HO} (n : H l = none) : Same H (upd H l o) := same_upd (Same.refl H) n
/-- a new object o, wherever it is laid -/
def New (H : Hp) (o : HO) (Q : VK) : Prop := ∀ p H', H p = none → Same H H' → H' p = some o → (∀ b, b ≠ p → H' b = H b) → Q (.ref p) H'
theorem New.at {H : Hp} {o : HO} {Q : VK} (h : New H o Q) {p : Addr} (n : H p = none) : Q (.ref p) (upd H p o) := h p _ n (same_new n) upd_same fun b hb => upd_ne hb

/-! ### the free names of a comprehension's block -/
def clOf (env : Env) : List (Str × NameKind) → List (Str × Addr) → List (Str × Addr)
  | [], cs => cs
  | (n, k) :: r, cs => clOf env r (if (k == NameKind.free) = true then (n, ((env.cells.lookup n).getD 0)) :: cs else cs)
theorem clOf_run {env : Env} : ∀ (l : List (Str × NameKind)) (cs : List (Str × Addr)), (∀ y ∈ l, y.2 = .free → ∃ c, env.cells.lookup y.1 = some c) →
    (forIn l cs fun (x : Str × NameKind) (r : List (Str × Addr)) => (match x with
      | (name, kind) => if (kind == NameKind.free) = true then do let a ← cellOf env name; pure (ForInStep.yield ((name, a) :: r)) else pure (ForInStep.yield r) : Sem (ForInStep (List (Str × Addr))))) = (pure (clOf env l cs) : Sem _)
  | [], cs, _ => by rw [List.forIn_nil]; rfl
  | (n, k) :: r, cs, h => by
    rw [List.forIn_cons]
    have hr := fun cs' => clOf_run r cs' fun y hy => h y (List.mem_cons_of_mem _ hy)
    by_cases hk : (k == NameKind.free) = true
    · obtain ⟨c, hc⟩ := h (n, k) List.mem_cons_self (by simpa using hk)
      have hc : env.cells.lookup n = some c := hc
      simp only [hk, if_true, cellOf, hc, pure_bind, clOf, Option.getD_some]
      exact hr _
    · have hk : (k == NameKind.free) = false := by simpa using hk
      simp only [hk, Bool.false_eq_true, if_false, pure_bind, clOf]
      exact hr _
theorem closure_ok {env : Env} {scope : Scope} (h : ∀ y ∈ scope.names, y.2 = .free → ∃ c, env.cells.lookup y.1 = some c) : closureFor scope env = pure (clOf env scope.names []) := by
  unfold closureFor
  have e := clOf_run scope.names [] h
  first
    | exact e
    | (simp only [bind_pure_comp, id_map'] ; exact e)
    | (rw [show (do let cs ← _; return cs) = _ from bind_pure _]; exact e)
    | (simp; simpa using e)
theorem clOf_sub {env : Env} : ∀ (l : List (Str × NameKind)) (cs : List (Str × Addr)), (∀ y ∈ l, y.2 = .free → ∃ c, env.cells.lookup y.1 = some c) → (∀ p ∈ cs, env.cells.lookup p.1 = some p.2) →
    ∀ p ∈ clOf env l cs, env.cells.lookup p.1 = some p.2
  | [], cs, _, hc => hc
  | (n, k) :: r, cs, h, hc => by
    refine clOf_sub r _ (fun y hy => h y (List.mem_cons_of_mem _ hy)) ?_
    by_cases hk : (k == NameKind.free) = true
    · obtain ⟨c, e⟩ := h (n, k) List.mem_cons_self (by simpa using hk)
      have e : env.cells.lookup n = some c := e
      rw [if_pos hk]
      intro p hp
      rcases List.mem_cons.mp hp with rfl | hp
      · show env.cells.lookup n = some ((env.cells.lookup n).getD 0)
        rw [e]; rfl
      · exact hc p hp
    · rw [if_neg hk]; exact hc
theorem clOf_keep {env : Env} : ∀ (l : List (Str × NameKind)) (cs : List (Str × Addr)) (p : Str × Addr), p ∈ cs → p ∈ clOf env l cs
  | [], cs, p, h => h
  | (n, k) :: r, cs, p, h => by
    refine clOf_keep r _ p ?_
    split
    · exact List.mem_cons_of_mem _ h
    · exact h
theorem clOf_has {env : Env} : ∀ (l : List (Str × NameKind)) (cs : List (Str × Addr)) (x : Str), (x, NameKind.free) ∈ l → ∃ c, (x, c) ∈ clOf env l cs
  | (n, k) :: r, cs, x, h => by
    rcases List.mem_cons.mp h with h | h
    · have e1 : x = n := congrArg Prod.fst h
      have e2 : NameKind.free = k := congrArg Prod.snd h
      subst e1 e2
      refine ⟨(env.cells.lookup x).getD 0, clOf_keep r _ (x, _) ?_⟩
      rw [if_pos (by simp)]
      exact List.mem_cons_self
    · exact clOf_has r _ x h
theorem lookup_of_mem {α : Type} : ∀ {l : List (Str × α)} {x : Str} {c : α}, (x, c) ∈ l → ∃ d, l.lookup x = some d
  | (n, v) :: r, x, c, h => by
    by_cases e : x == n
    · exact ⟨v, by simp [List.lookup_cons, e]⟩
    · rcases List.mem_cons.mp h with h | h
      · cases h; exact absurd (by simp) e
      · obtain ⟨d, hd⟩ := lookup_of_mem h
        exact ⟨d, by simp [List.lookup_cons, e, hd]⟩

/-- what a comprehension's scope must be, seen from the scope around it (sc, its names NX): N' the block's names, cs: for each the slot of the outer name (none: the block's own) -/
def csOk (sc : Scope) (NX N' : List Str) (cs : List (Option Nat)) (scope : Scope) : Bool :=
  (scope.kind == .function) && (scope.names.all fun y => y.2 != .cell) && (scope.names.all fun y => y.2 != .local || scope.names.lookup y.1 == some .local) &&
  (scope.names.all fun y => y.2 != .free || (sc.names.lookup y.1 == some .cell || sc.names.lookup y.1 == some .free)) &&
  decide (cs.length = N'.length) &&
  ((List.range cs.length).all fun j => match cs[j]? with
    | some (some i) => (match N'[j]? with | some x => decide (NX[i]? = some x) && (scope.names.lookup x == some .free) | none => false)
    | _ => true)
structure CsOk (sc : Scope) (NX N' : List Str) (cs : List (Option Nat)) (scope : Scope) : Prop where
  kind : scope.kind = .function
  nocell : ∀ y ∈ scope.names, y.2 ≠ .cell
  names : ∀ y ∈ scope.names, y.2 = .local → scope.names.lookup y.1 = some .local
  free : ∀ y ∈ scope.names, y.2 = .free → sc.names.lookup y.1 = some .cell ∨ sc.names.lookup y.1 = some .free
  len : cs.length = N'.length
  capt : ∀ (j i : Nat) (x : Str), cs[j]? = some (some i) → N'[j]? = some x → NX[i]? = some x ∧ scope.names.lookup x = some .free
theorem CsOk.of {sc : Scope} {NX N' : List Str} {cs : List (Option Nat)} {scope : Scope} (h : csOk sc NX N' cs scope = true) : CsOk sc NX N' cs scope := by
  unfold csOk at h
  simp only [Bool.and_eq_true] at h
  obtain ⟨⟨⟨⟨⟨h1, h2⟩, h3⟩, h4⟩, h5⟩, h6⟩ := h
  refine ⟨by simpa using h1, fun y hy => ?_, fun y hy e => ?_, fun y hy e => ?_, of_decide_eq_true h5, fun j i x e1 e2 => ?_⟩
  · have := List.all_eq_true.mp h2 y hy; simpa using this
  · have := List.all_eq_true.mp h3 y hy; simpa [e] using this
  · have := List.all_eq_true.mp h4 y hy; simpa [e] using this
  · have hj : j < cs.length := (List.getElem?_eq_some_iff.mp e1).1
    have := List.all_eq_true.mp h6 j (List.mem_range.mpr hj)
    rw [e1, e2] at this
    simpa using this

/-- the block's context -/
def cxC (X : Cx) (N' : List Str) (scope : Scope) (fp : List Addr) (s3 : Shared) (H3 : Hp) : Cx where
  prog := X.prog
  w := X.w
  K := X.K
  mg := X.mg
  base := X.base
  A := X.A
  N := N'
  s₀ := s3
  H₀ := H3
  env := compEnvC scope (clOf X.env scope.names []) s3.heap.objs.size X.env
  outer := X.stack
  stack := X.stack
  ex := fp
  fn := fun _ => false
  calm := X.calm
  pn := []
  xe := fun _ _ => False

/-- the block's values at its entry -/
def cst (cs : List (Option Nat)) (σ : St) : St := cs.map fun o => match o with | some i => (σ[i]?).getD none | none => none

/-- the tests of a comprehension -/
def PTs (X : Cx) (ifs : List Expr) (t : TT) : Prop :=
  ∀ (pins : List (Addr × Obj)) (s : Shared) (σ : St) (H : Hp) (Q : Bool → Hp → Prop), Inv X pins σ H s → t σ H Q →
    wpAny (model X.prog X.w) X.A (forIn ifs true fun c r => if r = true then do let ok ← isTrue c X.env (eval c X.env); pure (ForInStep.yield ok) else pure (ForInStep.yield r)) (TP X pins σ Q) X.xe s
def tT0 : TT := fun _ H Q => Q true H
theorem pts_nil {X : Cx} : PTs X [] tT0 := fun pins s σ H Q I h => wpAny_tests_nil ⟨H, I, h⟩
theorem pts_one {X : Cx} {c : Expr} {t : TT} (h : PT X c t) : PTs X [c] t := fun pins s σ H Q I q => wpAny_tests_one (h pins s σ H Q I q)

/-- the loop of a comprehension, by an invariant and a measure -/
def CompW (J : It) (g : TG) (tt : TT) (te : TE) (acc : Addr) (σ0 : St) (H0 : Hp) (Q : Hp → Prop) : Prop :=
  ∃ W : Nat → Nat → St → Hp → Prop, (∃ m, W 0 m σ0 H0) ∧ ∀ i m σ H, W i m σ H →
    (J.stop i H ∧ Q H) ∨ (J.go i H ∧ ∀ x H1, J.yld i H x H1 → g x σ H1 fun σ2 H2 => tt σ2 H2 fun b H3 =>
      if b = true then te σ2 H3 fun y H4 => ∃ ys, H4 acc = some (.lst ys) ∧ ys.length < sizeLine ∧ ∃ m', m' < m ∧ W (i + 1) m' σ2 (upd H4 acc (.lst (ys ++ [y])))
      else ∃ m', m' < m ∧ W (i + 1) m' σ2 H3)
def tComp (cs : List (Option Nat)) (wi : TI) (g : TG) (tt : TT) (te : TE) : TE := fun σ H Q => wi σ H fun J H1 => ∀ acc, H1 acc = none → CompW J g tt te acc (cst cs σ) (upd H1 acc (.lst [])) (Q (.ref acc))

section
variable {prog : Program} {w : World} {A : Around} {R : Result → Shared → Prop} {s : Shared}
theorem compLoop_any {elt target iter : Expr} {ifs : List Expr} {scope : Scope} {pos : Pos} {it acc : Value} {env : Env} (I : Nat → Shared → Prop)
    (turn : ∀ n s, I n s → wpAny (model prog w) A (pyNext it) (fun r s₁ => match r with
      | none => R (.ok .next) s₁
      | some v => wpAny (model prog w) A (letOwnedTupleGo target it v) (fun _ s₁ => wpAny (model prog w) A (assign target env v) (fun _ s₂ =>
          wpAny (model prog w) A (forIn ifs true fun c r => if r = true then do let ok ← isTrue c env (eval c env); pure (ForInStep.yield ok) else pure (ForInStep.yield r)) (fun ok s₃ =>
            if ok = true then wpAny (model prog w) A (eval elt env) (fun x s₄ =>
              wpAny (model prog w) A (call (.builtin "list.append") [acc, x]) (fun _ s₅ => ∃ m, m < n ∧ I m s₅) (notedBy (model prog w) A env fun e s' => R (.error e) s') s₄) (notedBy (model prog w) A env fun e s' => R (.error e) s') s₃
            else ∃ m, m < n ∧ I m s₃) (notedBy (model prog w) A env fun e s' => R (.error e) s') s₂) (notedBy (model prog w) A env fun e s' => R (.error e) s') s₁) (notedBy (model prog w) A env fun e s' => R (.error e) s') s₁) (notedBy (model prog w) A env fun e s' => R (.error e) s') s)
    (n : Nat) (h : I n s) :
    codeAny (model prog w) A (.compLoop (.ListComp elt [⟨target, iter, ifs, 0⟩] scope pos) 0 it acc env) R s := by
  refine codeAny_loop rfl I (fun n s hI => ?_) n h
  show wpAny _ A ((compTurn (.ListComp elt [⟨target, iter, ifs, 0⟩] scope pos) 0 it acc env).onRaise (fun x => do noteFrame x env; theTreesLotGoes x)) _ _ s
  refine wpAny_noted ?_
  rw [compTurn_list]
  refine wpAny_bind (wpAny_standAt (wpAny_bind (wpAny_mono (turn n s hI) (fun r s₁ h₁ => ?_) fun _ _ h' => h')))
  cases r with
  | none => exact wpAny_pure h₁
  | some v =>
    refine wpAny_bind (wpAny_mono h₁ (fun _ s₁ h₁ => ?_) fun _ _ h' => h')
    refine wpAny_bind (wpAny_mono h₁ (fun _ s₂ h₂ => wpAny_bind (wpAny_mono h₂ (fun ok s₃ h₃ => ?_) fun _ _ h' => h')) fun _ _ h' => h')
    cases ok with
    | false => exact wpAny_pure ⟨rfl, h₃⟩
    | true =>
      exact wpAny_bind (wpAny_bind (wpAny_mono h₃ (fun x s₄ h₄ => wpAny_bind (wpAny_mono h₄ (fun _ s₅ h₅ => wpAny_pure (wpAny_pure ⟨rfl, h₅⟩)) fun _ _ h' => h')) fun _ _ h' => h'))
end

section
variable {X : Cx} {pins : List (Addr × Obj)} {σ : St} {H2 : Hp} {s2 : Shared}

theorem relabel_free {scope : Scope} {env : Env} : ∀ {l : List (Str × NameKind)} {x : Str} {k : NameKind},
    (l.map fun (n, k) => if (k == NameKind.free && env.scope.kind == .function && env.kindOf n == some .cell) then (n, NameKind.cell) else (n, k)).lookup x = some k →
    l.lookup x = some k ∨ (l.lookup x = some .free ∧ k = .cell)
  | [], x, k, h => by simp at h
  | (n, k') :: r, x, k, h => by
    have ih := @relabel_free scope env r x k
    rw [List.map_cons] at h
    by_cases hx : (x == n) = true
    · by_cases hc : (k' == NameKind.free && env.scope.kind == .function && env.kindOf n == some .cell) = true
      · simp only [hc, if_true, List.lookup_cons, hx] at h
        have e : k' = .free := by simp only [Bool.and_eq_true] at hc; simpa using hc.1.1
        simp only [List.lookup_cons, hx]
        exact .inr ⟨by rw [e], (Option.some.inj h).symm⟩
      · simp only [hc, if_false, List.lookup_cons, hx, Bool.false_eq_true] at h
        simp only [List.lookup_cons, hx]
        exact .inl h
    · have hx : (x == n) = false := by simpa using hx
      by_cases hc : (k' == NameKind.free && env.scope.kind == .function && env.kindOf n == some .cell) = true
      · simp only [hc, if_true, List.lookup_cons, hx] at h
        simp only [List.lookup_cons, hx]
        exact ih h
      · simp only [hc, if_false, List.lookup_cons, hx, Bool.false_eq_true] at h
        simp only [List.lookup_cons, hx]
        exact ih h

theorem comp_core {elt target iter : Expr} {ifs : List Expr} {scope : Scope} {pos : Pos} {E : Value → Shared → Prop} {N' : List Str} {cs : List (Option Nat)} {it : Addr} {fp : List Addr} {tn : Nat → Heap → Prop} {J : It} {g : TG} {tt : TT} {te : TE} {Q : VK}
    {RR : Value → Addr → Result → Shared → Prop} (hc : X.calm = true) (F : CsOk X.env.scope X.N N' cs scope)
    (hg : ∀ s3 H3, PG (cxC X N' scope fp s3 H3) target g) (ht : ∀ s3 H3, PTs (cxC X N' scope fp s3 H3) ifs tt) (he : ∀ s3 H3, PE (cxC X N' scope fp s3 H3) elt te)
    (I2 : Inv X pins σ H2 s2) (T : Turn X.prog X.w X.K target J fp it tn) (st2 : tn 0 s2.heap) (f2 : ∀ b ∈ fp, FpOk X pins H2 b)
    (hW : ∀ acc, H2 acc = none → CompW J g tt te acc (cst cs σ) (upd H2 acc (.lst [])) (Q (.ref acc)))
    (hRR : ∀ D C s' H' m, Inv X pins σ H' s' → s'.heap.Ns C m → H' C = none → C ≠ X.env.locals → X.s₀.heap.objs.size ≤ C → (∀ x c, X.env.cells.lookup x = some c → c ≠ C) → (∀ p ∈ X.pn ++ pins, p.1 ≠ C) → Q (.ref D) H' → RR (.ref D) C (.ok .next) s') :
    wpAny (model X.prog X.w) X.A (newList []) (fun acc s₃ => wpAny (model X.prog X.w) X.A (newFunctionEnv scope X.env.globals (clOf X.env scope.names []) [] X.env.qual none .none (some X.env)) (fun cenv s₄ =>
      codeAny (model X.prog X.w) X.A (.compStart (.ListComp elt [⟨target, iter, ifs, 0⟩] scope pos) 0 (.ref it) acc { cenv with scope := relabel scope X.env }) (RR acc cenv.locals) s₄) E s₃) E s2 := by
  refine wpAny_newObj_type (wpAny_newFunctionEnv F.nocell (by intro y hy; simp at hy) (fun h₁ hns₁ hsb₁ => ?_) F.kind)
  dsimp only at hns₁ hsb₁ ⊢
  have hfree : ∀ y ∈ scope.names, y.2 = .free → ∃ c, X.env.cells.lookup y.1 = some c := fun y hy e => I2.ok.has y.1 (F.free y hy e)
  have sub : ∀ x c, (clOf X.env scope.names []).lookup x = some c → X.env.cells.lookup x = some c := fun x c e => clOf_sub scope.names [] hfree (by simp) (x, c) (PySem.mem_of_lookup e)
  obtain ⟨W, ⟨m0, w0⟩, turn⟩ := hW s2.heap.objs.size I2.fresh
  have I3 := I2.lnew (t' := s2.toks) (its := []) (ys := []) .nil (Nat.zero_le _)
  generalize hs3 : ({ s2 with heap := s2.heap.push { cls := .type "list", data := .seq ([] : List Value).toArray }, toks := s2.toks } : Shared) = s3 at I3
  generalize hH3 : upd H2 s2.heap.objs.size (HO.lst []) = H3 at I3 w0
  have e3 : s2.heap.push { cls := .type "list", dict := none, data := .seq ([] : List Value).toArray } = s3.heap := by rw [← hs3]
  rw [e3] at hns₁ hsb₁ ⊢
  have old : ∀ b o, s3.heap.get? b = some o → h₁.get? b = some o := fun b o e => hsb₁.extBut b o (Nat.ne_of_lt (Heap.lt_size e)) (Heap.get?_push_of_some _ e)
  have sz3 : s3.heap.objs.size = s2.heap.objs.size + 1 := by rw [← hs3]; exact Heap.size_push ..
  have fpn3 : ∀ b ∈ fp, H3 b = none := fun b hb => by
    obtain ⟨o, ho, _⟩ := T.obj 0 _ st2 b hb
    rw [← hH3, upd_ne (Nat.ne_of_lt (Heap.lt_size ho))]
    exact (f2 b hb).1
  have fplt : ∀ b ∈ fp, b < s3.heap.objs.size := fun b hb => by
    obtain ⟨o, ho, _⟩ := T.obj 0 _ st2 b hb
    exact Nat.lt_of_lt_of_le (Heap.lt_size ho) (by rw [sz3]; exact Nat.le_succ _)
  -- the block's own facts
  have okC : (cxC X N' scope fp s3 H3).Ok := by
    refine ⟨I3.ok.mod, F.kind, I3.ok.glob, I3.ok.blt, Nat.le_refl _, fun x y c h1 h2 => I3.ok.inj x y c (sub x c h1) (sub y c h2), fun x hx => ?_, fun x c h => (Bool.false_ne_true h).elim, I3.ok.hd, I3.ok.frames, .inl rfl, fun b hb => ⟨Nat.ne_of_lt (fplt b hb), fun x c e => (f2 b hb).2.2.2.2.1 x c (sub x c e)⟩,
      I3.bs, Nat.le_trans I3.ok.bsz I3.sz, fun b o e hb => ?_, fun b hb z => ?_, I3.stack, I3.stkFree⟩
    · have hx : scope.names.lookup x = some .free := by
        rcases hx with hx | hx
        · rcases relabel_free (scope := scope) (env := X.env) hx with q | ⟨q, _⟩
          · exact absurd rfl (F.nocell _ (PySem.mem_of_lookup q))
          · exact q
        · rcases relabel_free (scope := scope) (env := X.env) hx with q | ⟨q, z⟩
          · exact q
          · cases z
      obtain ⟨c, hm⟩ := clOf_has (env := X.env) scope.names [] x (PySem.mem_of_lookup hx)
      exact lookup_of_mem hm
    · rcases (f2 b hb).2.2.2.1 with z | z
      · exact I3.ok.noex b o e z
      · have h1 := Heap.lt_size e
        have h2 := I3.ok.bsz
        exact absurd (Nat.lt_of_lt_of_le h1 h2) (Nat.not_lt.mpr z)
    · rcases List.mem_cons.mp (I3.stkSub b z) with q | q
      · exact (f2 b hb).2.1 q
      · exact (f2 b hb).2.2.1 q
  have σlen : (cst cs σ).length = N'.length := by unfold cst; rw [List.length_map]; exact F.len
  have IC : Inv (cxC X N' scope fp s3 H3) [] (cst cs σ) H3 { s3 with heap := h₁, toks := s3.toks + ([] : List (Str × Value)).length } := by
    refine ⟨okC, rfl, I3.bare, Un.kept old, ⟨_, hns₁, fun j x v e1 e2 e3 => ?_⟩, fun x c e => ?_, I3.fresh, fun x c e => I3.freeC x c (sub x c e), fun p hp => absurd (show p ∈ ([] : List (Addr × Obj)) from hp) (by simp), I3.hok.kept old, σlen⟩
    · -- a name of the block that has a value is an outer one
      obtain ⟨i, hi, hv⟩ : ∃ i, cs[j]? = some (some i) ∧ σ[i]? = some (some v) := by
        unfold cst at e2
        rw [List.getElem?_map] at e2
        cases q : cs[j]? with
        | none => rw [q] at e2; cases e2
        | some o =>
          rw [q] at e2
          cases o with
          | none => cases e2
          | some i =>
            refine ⟨i, rfl, ?_⟩
            have e2 : (σ[i]?).getD none = some v := Option.some.inj e2
            cases q2 : σ[i]? with
            | none => rw [q2] at e2; cases e2
            | some z => rw [q2] at e2; exact congrArg some e2
      obtain ⟨hN, hf⟩ := F.capt j i x hi e1
      obtain ⟨m, hn, hl⟩ := I3.loc
      have hk := F.free _ (PySem.mem_of_lookup hf) rfl
      obtain ⟨u, r, l⟩ := hl i x v hN hv (.inr hk)
      refine ⟨u, r, .inr ⟨?_, ?_⟩⟩
      · rcases e3 with e3 | e3 | e3
        · rcases relabel_free (scope := scope) (env := X.env) e3 with q | ⟨_, z⟩
          · rw [hf] at q; cases q
          · cases z
        · exact .inl e3
        · exact .inr e3
      · rcases l with ⟨z, _⟩ | ⟨_, c, hc', hcell⟩
        · have z : X.env.scope.names.lookup x = some .local := z
          rcases hk with k | k <;> (rw [k] at z; cases z)
        · obtain ⟨c2, hm⟩ := clOf_has (env := X.env) scope.names [] x (PySem.mem_of_lookup hf)
          obtain ⟨c3, h3⟩ := lookup_of_mem hm
          have e4 := sub x c3 h3
          rw [hc'] at e4
          cases e4
          obtain ⟨o, ho, hd⟩ := hcell
          exact ⟨c, h3, o, old _ _ ho, hd⟩
    · obtain ⟨v, o, ho, hd⟩ := I3.cell x c (sub x c e)
      exact ⟨v, o, old _ _ ho, hd⟩
  have st4 : tn 0 h₁ := T.keep 0 s2.heap h₁ st2 fun b hb o e => old b o (by rw [← e3]; exact Heap.get?_push_of_some _ e)
  -- what stays true of the iterator's objects through the loop
  have stat : ∀ {H' : Hp}, (∀ b ∈ fp, H' b = none) → ∀ b ∈ fp, FpOk (cxC X N' scope fp s3 H3) [] H' b := fun hn b hb =>
    ⟨hn b hb, Nat.ne_of_lt (fplt b hb), okC.exfs b hb, .inl hb, fun x c e => (f2 b hb).2.2.2.2.1 x c (sub x c e), fun p hp => absurd (show p ∈ ([] : List (Addr × Obj)) from hp) (by simp)⟩
  have noE : ∀ {α : Type} {t : Sem α} {Q' : α → Shared → Prop} {E' : Value → Shared → Prop} {s' : Shared}, wpAny (model X.prog X.w) X.A t Q' (fun _ _ => False) s' → wpAny (model X.prog X.w) X.A t Q' E' s' := fun h => wpAny_mono h (fun _ _ q => q) fun _ _ f => f.elim
  -- behind the loop
  have fin : ∀ {σ' : St} {H' : Hp} {s' : Shared}, Inv (cxC X N' scope fp s3 H3) [] σ' H' s' → Q (.ref s2.heap.objs.size) H' → RR (.ref s2.heap.objs.size) s3.heap.objs.size (.ok .next) s' := fun {σ' H' s'} I' q => by
    obtain ⟨m, hn, _⟩ := I'.loc
    refine hRR _ _ s' H' m (I3.call' I'.os I'.base I'.hok I'.bare fun b hb => ?_) hn I'.free (Nat.ne_of_gt I3.lt) I3.sz (fun x c e z => ?_) (fun p hp z => ?_) q
    · obtain ⟨_, g1, _, g3, g4, g5⟩ := f2 b hb
      exact ⟨g3, g1, g4, g5⟩
    · obtain ⟨v, o, ho, _⟩ := I3.cell x c e
      exact absurd (Heap.lt_size ho) (by rw [z]; exact Nat.lt_irrefl _)
    · exact absurd (Heap.lt_size (I3.pin p hp).1) (by rw [z]; exact Nat.lt_irrefl _)
  have loop : codeAny (model X.prog X.w) X.A (.compLoop (.ListComp elt [⟨target, iter, ifs, 0⟩] scope pos) 0 (.ref it) (.ref s2.heap.objs.size) (cxC X N' scope fp s3 H3).env)
      (RR (.ref s2.heap.objs.size) s3.heap.objs.size) { s3 with heap := h₁, toks := s3.toks + ([] : List (Str × Value)).length } := by
    refine compLoop_any (fun n s' => ∃ i σ' H', Inv (cxC X N' scope fp s3 H3) [] σ' H' s' ∧ tn i s'.heap ∧ (∀ b ∈ fp, H' b = none) ∧ W i n σ' H') ?_ m0 ⟨0, _, H3, IC, st4, fpn3, w0⟩
    rintro n s4 ⟨i, σ4, H4, I4, st4, fr4, w4⟩
    rcases turn i n σ4 H4 w4 with ⟨stop, qn⟩ | ⟨go, step⟩
    · refine thn (T.done (cxC X N' scope fp s3 H3) rfl rfl rfl hc i [] s4 σ4 H4 _ I4 (stat fr4) st4 stop) fun r s5 ⟨hr, I5⟩ => ?_
      subst hr
      exact fin I5 qn
    · refine thn (T.item (cxC X N' scope fp s3 H3) rfl rfl rfl hc i [] s4 σ4 H4 _ I4 (stat fr4) st4 go) fun r s5 ⟨u, hr, h5⟩ => ?_
      subst hr
      refine thn h5 fun _ s6 ⟨x, H6, I6, r6, y6, st6, fr6⟩ => ?_
      have I6' := I6.pinned (stat fr6) (T.obj _ _ st6)
      have keepT : ∀ {σ7 : St} {H7 : Hp} {s7 : Shared}, Inv (cxC X N' scope fp s3 H3) ([] ++ pinsAt fp s6.heap) σ7 H7 s7 → tn (i + 1) s7.heap ∧ ∀ b ∈ fp, H7 b = none := fun {σ7 H7 s7} I7 =>
        ⟨T.keep _ _ _ st6 fun b hb o e => (I7.pin (b, o) (List.mem_append_right _ (List.mem_append_right _ (mem_pinsAt hb e)))).1, fun b hb => by
          obtain ⟨o, e, d⟩ := T.obj _ _ st6 b hb
          exact (I7.pin (b, o) (List.mem_append_right _ (List.mem_append_right _ (mem_pinsAt hb e)))).2.1⟩
      refine noE (thn (hg s3 H3 _ s6 σ4 H6 x u _ I6' r6 (step x H6 y6)) fun _ s7 ⟨σ7, H7, I7, q7⟩ => ?_)
      refine noE (thn (ht s3 H3 _ s7 σ7 H7 _ I7 q7) fun b s8 ⟨H8, I8, q8⟩ => ?_)
      cases b with
      | false =>
        rw [if_neg Bool.false_ne_true] at q8 ⊢
        obtain ⟨m', hm, w8⟩ := q8
        obtain ⟨t8, n8⟩ := keepT I8
        exact ⟨m', hm, i + 1, σ7, H8, I8.unpinned, t8, n8, w8⟩
      | true =>
        rw [if_pos rfl] at q8 ⊢
        refine noE (thn (he s3 H3 _ s8 σ7 H8 _ I8 q8) fun v s9 ⟨y, H9, I9, r9, ys, hacc, hz, m', hm, w9⟩ => ?_)
        refine noE (thn (mt_append (X := cxC X N' scope fp s3 H3) _ s9 σ7 H9 (.ref s2.heap.objs.size) [y] (.ref s2.heap.objs.size) [v] (fun _ H' => W (i + 1) m' σ7 H') I9 rfl (.cons r9 .nil) ⟨_, ys, y, rfl, rfl, hacc, hz, w9⟩) fun _ s10 ⟨_, H10, I10, _, w10⟩ => ?_)
        obtain ⟨t10, n10⟩ := keepT I10
        exact ⟨m', hm, i + 1, σ7, H10, I10.unpinned, t10, n10, w10⟩
  have e5 : ({ s2 with heap := h₁, toks := s2.toks + ([] : List (Str × Value)).length } : Shared) = { s3 with heap := h₁, toks := s3.toks + ([] : List (Str × Value)).length } := by rw [← hs3]
  rw [e5]
  exact codeAny_compStart_list loop (T.self _ 0 _ _ _ st4 loop)
end

section
variable {X : Cx}
/-- [elt for target in iter if ..], as an expression -/
theorem pe_comp {elt target iter : Expr} {ifs : List Expr} {scope : Scope} {pos : Pos} {wi : TI} {g : TG} {tt : TT} {te : TE} {sc : Scope} {NX : List Str} (N' : List Str) (cs : List (Option Nat)) (hc : X.calm = true)
    (hi : PI X target iter wi) (hg : ∀ fp s3 H3, PG (cxC X N' scope fp s3 H3) target g) (ht : ∀ fp s3 H3, PTs (cxC X N' scope fp s3 H3) ifs tt) (he : ∀ fp s3 H3, PE (cxC X N' scope fp s3 H3) elt te)
    (hsc : X.env.scope = sc) (hN : X.N = NX) (hcs : csOk sc NX N' cs scope = true) (hs : ∀ x, foldedSetIterable iter X.env x = pure x := by intro _; rfl) :
    PE X (.ListComp elt [⟨target, iter, ifs, 0⟩] scope pos) (tComp cs wi g tt te) := by
  intro pins s σ H Q I h
  subst hsc hN
  have F := CsOk.of hcs
  rw [eval_ListComp]
  refine wpAny_comprehension_free (use := none) rfl hs (closure_ok fun y hy e => I.ok.has y.1 (F.free y hy e)) F.kind F.names ?_
  refine thn (hi pins s σ H _ I h) fun v s1 h1 => thn h1 fun itv s2 h2 => ?_
  obtain ⟨it, fp, tn, J, H2, rfl, I2, T, st2, f2, hW⟩ := h2
  refine comp_core (RR := fun acc C => compPost (model X.prog X.w) X.A X.xe none (EP X pins σ Q) acc C) (Q := Q) hc F (hg fp) (ht fp) (he fp) I2 T st2 f2 hW ?_
  intro D C s' H' m I' hn hC hL hsz hcell hpin q
  refine ⟨m, hn, fun h' hs' => ⟨.ref D, H', ?_, rfl, q⟩⟩
  exact I'.turned (t' := s'.toks) (it := C) (fun b o hb e => (hs'.2 b hb).trans e) hC hL (.inr hsz) hcell hpin
/-- y = [elt for target in iter if ..], y a local name on the same line: the store comes ahead of the block's end -/
theorem ps_setC {i : Nat} {y : Str} {py spos : Pos} {elt target iter : Expr} {ifs : List Expr} {scope : Scope} {pos : Pos} {wi : TI} {g : TG} {tt : TT} {te : TE} {sc : Scope} {NX : List Str} (N' : List Str) (cs : List (Option Nat)) (hc : X.calm = true)
    (hND : X.N.Nodup) (hiN : X.N[i]? = some y) (hy : X.env.scope.names.lookup y = some .local)
    (hi : PI X target iter wi) (hg : ∀ fp s3 H3, PG (cxC X N' scope fp s3 H3) target g) (ht : ∀ fp s3 H3, PTs (cxC X N' scope fp s3 H3) ifs tt) (he : ∀ fp s3 H3, PE (cxC X N' scope fp s3 H3) elt te)
    (hsc : X.env.scope = sc) (hN : X.N = NX) (hcs : csOk sc NX N' cs scope = true)
    (hsw : swapsWith (.ListComp elt [⟨target, iter, ifs, 0⟩] scope pos) (some (.Name y py)) spos.line X.env = pure true)
    (hs : ∀ x, foldedSetIterable iter X.env x = pure x := by intro _; rfl) :
    PS X (.Assign [.Name y py] (.ListComp elt [⟨target, iter, ifs, 0⟩] scope pos) spos) (tAsg (tComp cs wi g tt te) (gName i)) := by
  intro pins s σ H D I h
  subst hsc hN
  have F := CsOk.of hcs
  rw [exec_Assign_Name_used _ _ _ _ hsw]
  refine wpAny_bind (wpAny_standAt (wpAny_bind ?_))
  show wpAny _ X.A (do let _ ← comprehension (.ListComp elt [⟨target, iter, ifs, 0⟩] scope pos) scope X.env _ (newList []) false (eval iter X.env) (some (assign (.Name y py) X.env))) _ _ s
  refine wpAny_bind (wpAny_mono (wpAny_comprehension_free (use := some (assign (.Name y py) X.env)) (Q := fun _ s' => SP X pins D .next s') rfl hs (closure_ok fun y hy e => I.ok.has y.1 (F.free y hy e)) F.kind F.names ?_) (fun _ s' hq => wpAny_pure (wpAny_pure hq)) fun _ _ e => e)
  refine thn (hi pins s σ H _ I h) fun v s1 h1 => thn h1 fun itv s2 h2 => ?_
  obtain ⟨it, fp, tn, J, H2, rfl, I2, T, st2, f2, hW⟩ := h2
  refine comp_core (RR := fun acc C => compPost (model X.prog X.w) X.A X.xe (some (assign (.Name y py) X.env)) (fun _ s' => SP X pins D .next s') acc C) (Q := fun x H' => gName i x σ H' D.nx) hc F (hg fp) (ht fp) (he fp) I2 T st2 f2 hW ?_
  intro A C s' H' m I' hn hC hL hsz hcell hpin q
  show wpAny _ X.A (assign (.Name y py) X.env (.ref A)) _ _ s'
  refine wpAny_assign_Name (store_ok2 I' hND hiN (.inl hy) (v := .ref A) rfl (fun s'' I'' ⟨a, hsa, ha⟩ => ?_) (.inr hy))
  have hCa : C ≠ a := by
    rcases ha with rfl | ha
    · exact hL
    · exact fun z => hcell _ _ ha z.symm
  refine ⟨m, hn.sameBut hsa hCa, fun h' hs' => ⟨_, H', ?_, q⟩⟩
  exact I''.turned (t' := s''.toks) (it := C) (fun b o hb e => (hs'.2 b hb).trans e) hC hL (.inr hsz) hcell hpin
end
end L3

namespace L3
open PySem PySem.Spec PyProof.Rows L2
section
variable {X : Cx}
/-! ### list.insert at a place in bounds -/
def rInsert : V → List V → Hp → VK → Prop := fun x vs H Q => ∃ l xs i y, x = .ref l ∧ vs = [.int i, y] ∧ H l = some (.lst xs) ∧ 0 ≤ i ∧ i ≤ xs.length ∧ xs.length < sizeLine ∧ Q .non (upd H l (.lst (xs.take i.toNat ++ y :: xs.drop i.toNat)))
theorem insert_eq (its : List Value) (i : Int) (u : Value) (h0 : 0 ≤ i) (h1 : i ≤ its.length) :
    (fun xs : Array Value => have k := if i < 0 then (i + ((xs.size : Nat) : Int)).toNat else min i.toNat xs.size; (xs.extract 0 k).push u ++ xs.extract k) its.toArray = (its.take i.toNat ++ u :: its.drop i.toNat).toArray := by
  have e : (if i < 0 then (i + ((its.toArray.size : Nat) : Int)).toNat else min i.toNat its.toArray.size) = i.toNat := by
    rw [if_neg (by omega), List.size_toArray]; omega
  show ((its.toArray.extract 0 _).push u ++ its.toArray.extract _) = _
  rw [e]
  apply Array.ext'
  simp
  exact List.take_of_length_le (by rw [List.length_drop]; omega)
theorem mt_insert : MtM X "list.insert" rInsert := by
  intro pins s σ H x vs v us Q I rx rv h
  obtain ⟨l, xs, i, y, rfl, rfl, hH, h0, h1, hz, q⟩ := h
  cases rx
  obtain ⟨u1, u2, rfl, ⟨t, rfl⟩, ru⟩ := rv.two
  obtain ⟨z, its, n, r, hl, e⟩ := I.lstM hH
  have hs := sizeLine_eq
  have hfit : ¬ (!Builtin.List.listFitsIndex i) = true := by
    have q : Builtin.List.listFitsIndex i = true := by
      unfold Builtin.List.listFitsIndex
      simp only [Bool.and_eq_true, decide_eq_true_eq]
      constructor <;> omega
    rw [q]; decide
  refine call_meets F.slot_list_insert ⟨_, e, rfl⟩ F.entry_list_insert (F.args_list_insert_3 _ _ _) (AutoListH.list_insert_list_int_val_1 l its.toArray n i t u2 hfit (by rw [List.size_toArray]; omega)) ⟨e, ?_⟩
  refine ⟨.non, _, I.lset (its' := its.take i.toNat ++ u2 :: its.drop i.toNat) hH e (insert_eq its i u2 h0 (by omega)) ((r.take _).append (.cons ru (r.drop _))) ?_, rfl, q⟩
  simp only [List.length_append, List.length_take, List.length_cons, List.length_drop]
  omega

/-! ### range objects, list(range(..)) -/
def tRng1 (ta : TA) : TE := fun σ H Q => ta σ H fun vs H1 => ∃ j : Int, vs = [.int j] ∧ New H1 (.rng 0 j) Q
theorem pe_range1 {a : Expr} {ta : TA} {p pos : Pos} (hg : Gl X "range") (hm : X.mg "range" = none) (ha : PA X [a] ta) (hs : starEach [a] X.env = [(false, eval a X.env)] := by rfl) : PE X (.Call (.Name "range" p) [a] [] pos) (tRng1 ta) := by
  intro pins s σ H Q I h
  refine Call_ (ld_blt I hg hm boot_range (PyProof.Rows.callWith_type1 (thn (ha pos pins s σ H _ I h) fun us s1 ⟨vs, H1, I1, r1, q1⟩ => ?_) hs rfl))
  obtain ⟨j, e, q⟩ := q1
  subst e
  cases r1 with
  | cons r rr =>
    cases rr
    obtain ⟨t, rfl⟩ := r
    refine call_range_1 ⟨.ref s1.heap.objs.size, _, I1.laid (o := .rng 0 j) (fun _ _ q => Heap.get?_push_of_some _ q) (Nat.le_refl _) ?_, rfl, q.at I1.fresh⟩
    exact ⟨_, _, _, Heap.get?_push_size _ rfl⟩
def tRng2 (ta : TA) : TE := fun σ H Q => ta σ H fun vs H1 => ∃ i j : Int, vs = [.int i, .int j] ∧ New H1 (.rng i j) Q
def rangeVs (lo hi : Int) : List V := (List.range (hi - lo).toNat).map fun k : Nat => V.int (lo + k)
theorem vals_range : ∀ (n : Nat) (lo : Int) (us : List Value), us.length = n → (∀ (j : Nat) v, us[j]? = some v → ∃ t, v = Value.int (lo + j) t) → Vals ((List.range n).map fun k : Nat => V.int (lo + k)) us
  | 0, lo, us, hl, _ => by
    have : us = [] := List.length_eq_zero_iff.mp hl
    subst this; exact .nil
  | n + 1, lo, [], hl, _ => by simp at hl
  | n + 1, lo, u :: us, hl, h => by
    have e : (List.range (n + 1)).map (fun k : Nat => V.int (lo + k)) = V.int lo :: (List.range n).map fun k : Nat => V.int (lo + 1 + k) := by
      rw [List.range_succ_eq_map, List.map_cons, List.map_map]
      congr 1
      · simp
      · apply List.map_congr_left
        intro k _
        show V.int (lo + ((k + 1 : Nat) : Int)) = _
        congr 1; omega
    rw [e]
    obtain ⟨t, ht⟩ := h 0 u rfl
    refine .cons ⟨t, by rw [ht]; simp⟩ (vals_range n (lo + 1) us (by simpa using hl) fun j v hj => ?_)
    obtain ⟨t, ht⟩ := h (j + 1) v (by simpa using hj)
    exact ⟨t, by rw [ht]; congr 1; omega⟩
theorem call_list_rng (hc : X.calm = true) : CallR X (.type "list") (fun xs H Q => ∃ r lo hi, xs = [.ref r] ∧ H r = some (.rng lo hi) ∧ (-(2 ^ 62) ≤ lo ∧ lo < 2 ^ 62 ∧ -(2 ^ 62) ≤ hi ∧ hi < 2 ^ 62 ∧ hi - lo ≤ 2 ^ 24) ∧ New H (.lst (rangeVs lo hi)) Q) := by
  intro pins s σ H xs us Q I rv h
  obtain ⟨r, lo, hi, rfl, hr, ⟨h1, h2, h3, h4, h5⟩, q⟩ := h
  obtain ⟨u, rfl, ru⟩ := vals1 rv
  cases ru
  obtain ⟨t, u, v, e⟩ := I.hok r _ hr
  refine call_list_range (n := (hi - lo).toNat) (I.ok.hd hc) (a := lo) (b := hi) (c := 1) e (small_one h1 h2 h3 h4) (by rw [rangeSize_one]; split <;> omega) (by omega) fun h' tk acc c hk hD hI => ?_
  refine ⟨.ref s.heap.objs.size, _, I.laid (o := .lst (rangeVs lo hi)) hk (Nat.le_refl _) ?_, rfl, q.at I.fresh⟩
  refine ⟨?_, acc.toList, c, ?_, by rw [Array.toArray_toList]; exact hD⟩
  · unfold rangeVs
    rw [List.length_map, List.length_range, sizeLine_eq]; omega
  · refine vals_range _ _ _ (by rw [Array.length_toList]; exact hI.1) fun j v hj => ?_
    obtain ⟨t, ht⟩ := hI.2 j v (by rw [← hj, Array.getElem?_toList])
    exact ⟨t, by rw [ht]; congr 1; omega⟩

/-! ### xs[::-1] -/
def tRev (K : PySem.W.Frag) (te : TE) (tk : TO) : TE := fun σ H Q => te σ H fun x H1 => tk σ H1 fun o H2 => o = some (-1) ∧ ∃ a xs, x = .ref a ∧ SqL K H2 a xs ∧ New H2 (.lst xs.reverse) Q
theorem pe_rev {e k : Expr} {te : TE} {tk : TO} {p2 pos : Pos} (he : PE X e te) (hk : PO X (some k) tk) : PE X (.Subscript e (.Slice none none (some k) p2) pos) (tRev X.K te tk) := by
  intro pins s σ H Q I h
  refine Subscript_ (thn (he pins s σ H _ I h) fun v s1 ⟨x, H1, I1, r1, q1⟩ => ?_)
  refine wpAny_Slice ?_
  rw [evalPart_none]
  refine wpAny_pure (wpAny_pure ?_)
  refine thn (hk pins s1 σ H1 _ I1 q1) fun vk s3 ⟨o, H3, I3, pk, eo, a, xs, hx, hS, q⟩ => ?_
  subst eo hx
  cases r1
  have I4 : Inv X pins σ H3 { s3 with heap := s3.heap.push { cls := .type "slice", data := .fields #[.none, .none, vk] } } := I3.kept (t' := s3.toks) fun b ob q => Heap.get?_push_of_some _ q
  obtain ⟨its, r, ht, hz⟩ := I4.list hS
  have hlen := r.length
  show wpAny (model X.prog X.w) X.A (subscriptTail e (.Slice none none (some k) p2) (.ref a) (.ref s3.heap.objs.size)) (EP X pins σ Q) X.xe { s3 with heap := s3.heap.push { cls := .type "slice", data := .fields #[.none, .none, vk] } }
  refine tail_any (ops := [.ref a, .ref s3.heap.objs.size]) ht.isList.typeIs slot_list_getitem.lookup ?_ (by with_unfolding_all rfl)
  refine wpAny_getItem_list_slice ht.isList (Heap.IsSliceOf.new ..) .none .none pk (by simp) ?_ (by rw [List.size_toArray] <;> omega)
  rw [PySem.W.krv_pick]
  refine ⟨.ref _, _, I4.laid (t' := s3.toks) (o := .lst xs.reverse) (fun b ob q => Heap.get?_push_of_some _ q) (Nat.le_refl _) ?_, rfl, q.at I4.fresh⟩
  exact ⟨by rw [List.length_reverse]; exact hz, _, 0, r.reverse, Heap.get?_push_size _ rfl⟩

/-! ### displays, list(..), tuple(..), slices, {}: by New -/
def tTupN (t : TA) : TE := fun σ H Q => t σ H fun xs H1 => xs.length ≤ sizeLine ∧ New H1 (.tup xs) Q
def tLstN (t : TA) : TE := fun σ H Q => t σ H fun xs H1 => xs.length ≤ sizeLine ∧ New H1 (.lst xs) Q
theorem pe_tupN {es : List Expr} {t : TA} {x1} {pos : Pos} (h : PA X es t) : PE X (.Tuple es x1 pos) (tTupN t) := by
  intro pins s σ H Q I hq
  refine wpAny_Tuple_spliced (thn (h pos pins s σ H _ I hq) fun us s1 ⟨xs, H1, I1, r, z, q⟩ => ⟨by rw [← r.length]; exact z, ?_⟩)
  refine ⟨.ref s1.heap.objs.size, upd H1 s1.heap.objs.size (.tup xs), I1.laid (t' := s1.toks) (fun b u e => Heap.get?_push_of_some _ e) (Nat.le_refl _) ?_, rfl, q.at I1.fresh⟩
  exact ⟨z, us, r, ⟨_, Heap.get?_push_size _ rfl, rfl, _, rfl⟩⟩
theorem pe_lstN {es : List Expr} {t : TA} {pos : Pos} (h : PA X es t) : PE X (.List es pos) (tLstN t) := by
  intro pins s σ H Q I hq
  refine wpAny_List_spliced (thn (h pos pins s σ H _ I hq) fun us s1 ⟨xs, H1, I1, r, z, q⟩ => ⟨by rw [← r.length]; exact z, ?_⟩)
  refine ⟨.ref s1.heap.objs.size, upd H1 s1.heap.objs.size (.lst xs), I1.laid (t' := s1.toks) (fun b u e => Heap.get?_push_of_some _ e) (Nat.le_refl _) ?_, rfl, q.at I1.fresh⟩
  exact ⟨z, us, 0, r, Heap.get?_push_size _ rfl⟩
def rListN (K : PySem.W.Frag) : List V → Hp → VK → Prop := fun xs H Q => ∃ p ys, xs = [.ref p] ∧ (SqL K H p ys ∨ SqT K H p ys) ∧ New H (.lst ys) Q
theorem call_listN : CallR X (.type "list") (rListN X.K) := by
  intro pins s σ H xs us Q I r h
  obtain ⟨p, ys, e, hq, q⟩ := h
  exact call_list_of pins s σ H xs us Q I r ⟨p, ys, e, hq, fun l n => q.at n⟩
def rTupleN (K : PySem.W.Frag) : List V → Hp → VK → Prop := fun xs H Q => ∃ p ys, xs = [.ref p] ∧ ((SqL K H p ys ∧ New H (.tup ys) Q) ∨ (SqT K H p ys ∧ Q (.ref p) H))
theorem call_tupleN : CallR X (.type "tuple") (rTupleN X.K) := by
  intro pins s σ H xs us Q I r h
  obtain ⟨p, ys, e, hq⟩ := h
  refine call_tuple_of pins s σ H xs us Q I r ⟨p, ys, e, ?_⟩
  rcases hq with ⟨h1, h2⟩ | h
  · exact .inl ⟨h1, fun l n => h2.at n⟩
  · exact .inr h
def rSlN (K : PySem.W.Frag) : V → Option Int → Option Int → Hp → VK → Prop := fun x lo hi H Q => ∃ a xs, x = .ref a ∧ SqL K H a xs ∧ New H (.lst (cutV xs lo hi)) Q
theorem sl_listN : SlR X (rSlN X.K) := by
  intro pins s σ H x v vl vu lo hi sl Q I rx hs pl pu h
  obtain ⟨a, xs, e, hx, q⟩ := h
  exact sl_list pins s σ H x v vl vu lo hi sl Q I rx hs pl pu ⟨a, xs, e, hx, fun p n => q.at n⟩
def tDictN : TE := fun _ H Q => New H (.dK []) Q
theorem pe_dictN {pos : Pos} : PE X (.Dict [] [] pos) tDictN := fun pins s σ H Q I h => pe_dnewK pins s σ H Q I fun p n => h.at n

/-! ### isinstance of one built-in type -/
theorem call_isi : CallR X (.builtin "isinstance") (fun xs H Q => ∃ x T t b, xs = [x, .ty T] ∧ TyOf X.K H x t ∧ PySem.W.kitOne X.K t (.type T) = some b ∧ Q (.bl b) H) := by
  intro pins s σ H xs us Q I rv h
  obtain ⟨x, T, t, b, rfl, ty, e, q⟩ := h
  obtain ⟨u, c, rfl, rx, rc⟩ := vals2 rv
  cases (show c = Value.type T from rc)
  exact isinst_ok I rx ty e fun tk => ⟨.bl b, H, I.tok tk, rfl, q⟩
end
end L3

namespace L3
open PySem PySem.Spec PyProof.Rows L2

/-! ### data without a heap -/
inductive D where
  | non | bl (b : Bool) | int (i : Int) | str (x : Str) | tup (xs : List D) | lst (xs : List D) | emp
mutual
def D.dep : D → Nat
  | .tup xs => deps xs + 1
  | .lst xs => deps xs + 1
  | _ => 0
def deps : List D → Nat
  | [] => 0
  | x :: r => max x.dep (deps r)
end
mutual
/-- what == tells -/
def D.eqv : D → D → Bool
  | .non, .non => true
  | .bl a, .bl b => a == b
  | .bl a, .int j => (if a then 1 else 0) == j
  | .int i, .bl b => i == (if b then 1 else 0)
  | .int i, .int j => i == j
  | .str x, .str y => x == y
  | .tup xs, .tup ys => eqvs xs ys
  | .lst xs, .lst ys => eqvs xs ys
  | .emp, .emp => true
  | _, _ => false
def eqvs : List D → List D → Bool
  | [], [] => true
  | x :: r, y :: q => x.eqv y && eqvs r q
  | _, _ => false
end
mutual
theorem D.eqv_refl : ∀ d : D, d.eqv d = true
  | .non => rfl
  | .bl b => by simp [D.eqv]
  | .int i => by simp [D.eqv]
  | .str x => by simp [D.eqv]
  | .tup xs => by rw [D.eqv]; exact eqvs_refl xs
  | .lst xs => by rw [D.eqv]; exact eqvs_refl xs
  | .emp => rfl
theorem eqvs_refl : ∀ xs : List D, eqvs xs xs = true
  | [] => rfl
  | x :: r => by rw [eqvs, D.eqv_refl x, eqvs_refl r]; rfl
end
mutual
/-- no bool and no dict in it -/
def D.pure : D → Bool
  | .bl _ => false
  | .emp => false
  | .tup xs => pures xs
  | .lst xs => pures xs
  | _ => true
def pures : List D → Bool
  | [] => true
  | x :: r => x.pure && pures r
end
mutual
theorem D.eqv_iff : ∀ d e : D, d.pure = true → e.pure = true → d.eqv e = true → d = e
  | .non, e, _, pe, h => by cases e <;> simp_all [D.eqv]
  | .bl b, e, pd, _, _ => by simp [D.pure] at pd
  | .int i, e, _, pe, h => by cases e <;> simp_all [D.eqv, D.pure]
  | .str x, e, _, pe, h => by cases e <;> simp_all [D.eqv]
  | .tup xs, e, pd, pe, h => by
    cases e with
    | tup ys => rw [D.eqv] at h; rw [D.pure] at pd pe; rw [eqvs_iff xs ys pd pe h]
    | _ => simp [D.eqv] at h
  | .lst xs, e, pd, pe, h => by
    cases e with
    | lst ys => rw [D.eqv] at h; rw [D.pure] at pd pe; rw [eqvs_iff xs ys pd pe h]
    | _ => simp [D.eqv] at h
  | .emp, e, _, pe, h => by cases e <;> simp_all [D.eqv]
theorem eqvs_iff : ∀ xs ys : List D, pures xs = true → pures ys = true → eqvs xs ys = true → xs = ys
  | [], ys, _, _, h => by cases ys <;> simp_all [eqvs]
  | x :: r, [], _, _, h => by simp [eqvs] at h
  | x :: r, y :: q, px, py, h => by
    rw [pures, Bool.and_eq_true] at px py
    rw [eqvs, Bool.and_eq_true] at h
    rw [D.eqv_iff x y px.1 py.1 h.1, eqvs_iff r q px.2 py.2 h.2]
end
theorem eqv_ne {d e : D} (pd : d.pure = true) (pe : e.pure = true) (h : d ≠ e) : d.eqv e = false := by
  cases q : d.eqv e with
  | false => rfl
  | true => exact absurd (D.eqv_iff d e pd pe q) h

mutual
inductive Rep (H : Hp) : V → D → Prop
  | non : Rep H .non .non
  | bl (b : Bool) : Rep H (.bl b) (.bl b)
  | int (i : Int) : Rep H (.int i) (.int i)
  | str (x : Str) : Rep H (.str x) (.str x)
  | tup {a : Addr} {vs : List V} {xs : List D} : H a = some (.tup vs) → Reps H vs xs → Rep H (.ref a) (.tup xs)
  | lst {a : Addr} {vs : List V} {xs : List D} : H a = some (.lst vs) → Reps H vs xs → Rep H (.ref a) (.lst xs)
  | emp {a : Addr} : H a = some (.dK []) → Rep H (.ref a) .emp
inductive Reps (H : Hp) : List V → List D → Prop
  | nil : Reps H [] []
  | cons {v : V} {d : D} {vs : List V} {ds : List D} : Rep H v d → Reps H vs ds → Reps H (v :: vs) (d :: ds)
end
mutual
theorem Rep.mono {H H' : Hp} {v : V} {d : D} : Rep H v d → Same H H' → Rep H' v d
  | .non, _ => .non
  | .bl b, _ => .bl b
  | .int i, _ => .int i
  | .str x, _ => .str x
  | .tup e r, s => .tup (s _ _ e) (r.mono s)
  | .lst e r, s => .lst (s _ _ e) (r.mono s)
  | .emp e, s => .emp (s _ _ e)
theorem Reps.mono {H H' : Hp} {vs : List V} {ds : List D} : Reps H vs ds → Same H H' → Reps H' vs ds
  | .nil, _ => .nil
  | .cons h r, s => .cons (h.mono s) (r.mono s)
end
theorem Reps.length {H : Hp} : ∀ {vs : List V} {ds : List D}, Reps H vs ds → vs.length = ds.length
  | _, _, .nil => rfl
  | _, _, .cons _ r => by rw [List.length_cons, List.length_cons, r.length]
theorem Reps.get {H : Hp} : ∀ {vs : List V} {ds : List D} {i : Nat} {v : V}, Reps H vs ds → vs[i]? = some v → ∃ d, ds[i]? = some d ∧ Rep H v d
  | _, _, i, v, .nil, e => by simp at e
  | _, _, 0, v, .cons h r, e => by simp at e; subst e; exact ⟨_, rfl, h⟩
  | _, _, i + 1, v, .cons h r, e => by
    obtain ⟨d, h1, h2⟩ := r.get (i := i) (v := v) (by simpa using e)
    exact ⟨d, by simpa using h1, h2⟩
theorem Reps.append {H : Hp} : ∀ {vs ws : List V} {ds es : List D}, Reps H vs ds → Reps H ws es → Reps H (vs ++ ws) (ds ++ es)
  | _, _, _, _, .nil, s => s
  | _, _, _, _, .cons h r, s => .cons h (r.append s)
theorem Reps.ints {H : Hp} : ∀ ns : List Int, Reps H (ns.map V.int) (ns.map D.int)
  | [] => .nil
  | n :: r => .cons (.int n) (Reps.ints r)

/-! ### heaps -/
/-- without the object at p -/
def rm (p : Addr) (H : Hp) : Hp := fun b => if b = p then none else H b
theorem rm_self {p : Addr} {H : Hp} : rm p H p = none := by unfold rm; rw [if_pos rfl]
theorem rm_ne {p b : Addr} {H : Hp} (h : b ≠ p) : rm p H b = H b := by unfold rm; rw [if_neg h]
theorem rm_same {p : Addr} {H : Hp} : Same (rm p H) H := fun b o e => by
  by_cases h : b = p
  · rw [h, rm_self] at e; cases e
  · rwa [rm_ne h] at e
theorem rm_mono {p : Addr} {H H' : Hp} (s : Same (rm p H) H') : Same (rm p H) (rm p H') := fun b o e => by
  by_cases h : b = p
  · rw [h, rm_self] at e; cases e
  · rw [rm_ne h]; exact s b o e
theorem rm_of {p : Addr} {H H' : Hp} (s : Same H H') (n : H p = none) : Same H (rm p H') := fun b o e => by
  rw [rm_ne (ne_of_none e n)]; exact s b o e
theorem rm_upd {p : Addr} {H : Hp} {o : HO} : rm p (upd H p o) = rm p H := by
  funext b; unfold rm upd; split <;> rfl
/-! ### == of data -/
section
variable {X : Cx} {pins : List (Addr × Obj)} {σ : St} {H : Hp} {s : Shared}
theorem get_toArray {us : List Value} {j : Nat} (h : j < us.toArray.size) {v : Value} (e : us[j]? = some v) : us.toArray[j] = v := by
  obtain ⟨h', q⟩ := List.getElem?_eq_some_iff.mp e
  simpa using q
theorem range_all_eqvs (f : Nat → Bool) : ∀ (xs ys : List D), xs.length = ys.length → (∀ (j : Nat) x y, xs[j]? = some x → ys[j]? = some y → f j = x.eqv y) → (List.range xs.length).all f = eqvs xs ys := by
  intro xs
  induction xs generalizing f with
  | nil => intro ys hl _; cases ys with
    | nil => rfl
    | cons _ _ => simp at hl
  | cons x r ih =>
    intro ys hl h
    cases ys with
    | nil => simp at hl
    | cons y q =>
      rw [List.length_cons, List.range_succ_eq_map, List.all_cons, List.all_map, eqvs, h 0 x y rfl rfl]
      congr 1
      exact ih (fun j => f (j + 1)) q (by simpa using hl) fun j x' y' e1 e2 => h (j + 1) x' y' (by simpa using e1) (by simpa using e2)
theorem eqvs_len : ∀ (xs ys : List D), xs.length ≠ ys.length → eqvs xs ys = false
  | [], [], h => absurd rfl h
  | [], _ :: _, _ => rfl
  | _ :: _, [], _ => rfl
  | x :: r, y :: q, h => by rw [eqvs, eqvs_len r q (by simpa using h), Bool.and_false]
/-- the items' answers by places -/
def ansAt (xs ys : List D) (j : Nat) : Bool := match xs[j]?, ys[j]? with
  | some x, some y => x.eqv y
  | _, _ => true
theorem range_min_eqvs (xs ys : List D) : ((List.range (min xs.length ys.length)).all (ansAt xs ys) && xs.length == ys.length) = eqvs xs ys := by
  by_cases h : xs.length = ys.length
  · rw [← h, Nat.min_self, beq_self_eq_true, Bool.and_true]
    refine range_all_eqvs _ xs ys h fun j x y e1 e2 => ?_
    unfold ansAt; rw [e1, e2]
  · rw [eqvs_len xs ys h, beq_eq_false_iff_ne.mpr h, Bool.and_false]
theorem IsTup.isT {h : Heap} {a : Addr} {its : Array Value} (t : IsTup h a its) : h.IsTuple a its := by
  first
  | exact t
  | (obtain ⟨o, e, c, n, d⟩ := t; exact ⟨o, e, c, n, d⟩)
  | (obtain ⟨o, e, c, n, d, _⟩ := t; exact ⟨o, e, c, n, d⟩)

mutual
theorem Rep.inj {H : Hp} {v : V} {d e : D} : Rep H v d → Rep H v e → d = e
  | .non, .non => rfl
  | .bl _, .bl _ => rfl
  | .int _, .int _ => rfl
  | .str _, .str _ => rfl
  | .tup e r, .tup e' r' => by rw [e] at e'; cases e'; rw [r.inj r']
  | .tup e r, .lst e' r' => by rw [e] at e'; cases e'
  | .tup e r, .emp e' => by rw [e] at e'; cases e'
  | .lst e r, .tup e' r' => by rw [e] at e'; cases e'
  | .lst e r, .lst e' r' => by rw [e] at e'; cases e'; rw [r.inj r']
  | .lst e r, .emp e' => by rw [e] at e'; cases e'
  | .emp e, .tup e' r' => by rw [e] at e'; cases e'
  | .emp e, .lst e' r' => by rw [e] at e'; cases e'
  | .emp e, .emp e' => rfl
theorem Reps.inj {H : Hp} {vs : List V} {ds es : List D} : Reps H vs ds → Reps H vs es → ds = es
  | .nil, .nil => rfl
  | .cons h r, .cons h' r' => by rw [h.inj h', r.inj r']
end
theorem dep_get : ∀ {xs : List D} {j : Nat} {x : D}, xs[j]? = some x → x.dep ≤ deps xs
  | [], j, x, e => by simp at e
  | y :: r, 0, x, e => by simp at e; subst e; rw [deps]; omega
  | y :: r, j + 1, x, e => by
    have := dep_get (xs := r) (j := j) (x := x) (by simpa using e)
    rw [deps]; omega
theorem pure_get : ∀ {xs : List D} {j : Nat} {x : D}, pures xs = true → xs[j]? = some x → x.pure = true
  | [], j, x, _, e => by simp at e
  | y :: r, 0, x, h, e => by simp at e; subst e; rw [pures, Bool.and_eq_true] at h; exact h.1
  | y :: r, j + 1, x, h, e => by rw [pures, Bool.and_eq_true] at h; exact pure_get (j := j) h.2 (by simpa using e)
theorem tupAt {P : Program} {w : World} (hok : HOk P w H s.heap) {a : Addr} {vs : List V} (e : H a = some (.tup vs)) : ∃ its : List Value, Vals vs its ∧ s.heap.IsTuple a its.toArray := by
  obtain ⟨_, its, r, t⟩ := hok a _ e
  exact ⟨its, r, IsTup.isT t⟩
theorem lstAt {P : Program} {w : World} (hok : HOk P w H s.heap) {a : Addr} {vs : List V} (e : H a = some (.lst vs)) : ∃ its : List Value, Vals vs its ∧ s.heap.IsList a its.toArray := by
  obtain ⟨_, its, n, r, t⟩ := hok a _ e
  exact ⟨its, r, _, t, rfl, n, rfl⟩
/-- the items' answers -/
theorem items_ans {A : Around} {vs ws : List V} {xs ys : List D} {us zs : List Value} (rx : Reps H vs xs) (ry : Reps H ws ys) (qx : Vals vs us) (qy : Vals ws zs)
    (ih : ∀ (j : Nat) x y v w u z, xs[j]? = some x → ys[j]? = some y → Rep H v x → Rep H w y → RelV v u → RelV w z → SeqAt.EqAt A s u z (x.eqv y)) :
    ∀ j (h1 : j < us.toArray.size) (h2 : j < zs.toArray.size), SeqAt.EqAt A s us.toArray[j] zs.toArray[j] (ansAt xs ys j) := fun j h1 h2 => by
  have l1 := qx.length
  have l2 := qy.length
  rw [List.size_toArray] at h1 h2
  have g1 : vs[j]? = some (vs[j]'(by omega)) := List.getElem?_eq_getElem (by omega)
  have g2 : ws[j]? = some (ws[j]'(by omega)) := List.getElem?_eq_getElem (by omega)
  obtain ⟨u, hu, ru⟩ := qx.get g1
  obtain ⟨z, hz, rz⟩ := qy.get g2
  obtain ⟨x, hx, px⟩ := rx.get g1
  obtain ⟨y, hy, py⟩ := ry.get g2
  rw [get_toArray _ hu, get_toArray _ hz]
  unfold ansAt
  rw [hx, hy]
  exact ih j x y _ _ u z hx hy px py ru rz
theorem in1_units (A : Around) : A.in1.units = A.units + 1 := rfl
theorem eqAt_n {P : Program} {w : World} (hok : HOk P w H s.heap) : ∀ (n : Nat) (A : Around) {v w : V} {d e : D} {u z : Value}, d.dep ≤ n → Rep H v d → Rep H w e → RelV v u → RelV w z → d.pure = true → e.pure = true → A.units + n < cLine →
    SeqAt.EqAt A s u z (d.eqv e) := by
  intro n
  induction n with
  | zero =>
    intro A v w d e u z hd rd re ru rz pd pe hu
    cases rd with
    | bl _ => simp [D.pure] at pd
    | emp _ => simp [D.pure] at pd
    | tup _ _ => simp [D.dep] at hd
    | lst _ _ => simp [D.dep] at hd
    | non =>
      cases ru
      cases re with
      | bl _ => simp [D.pure] at pe
      | emp _ => simp [D.pure] at pe
      | non => cases rz; exact SeqAt.EqAt.same .none
      | int j => obtain ⟨t, rfl⟩ := rz; exact SeqAt.EqAt.none_int j t
      | str y => obtain ⟨t, rfl⟩ := rz; exact SeqAt.EqAt.none_str y t
      | tup ea _ => cases rz; obtain ⟨its, _, ht⟩ := tupAt hok ea; exact SeqAt.EqAt.none_tuple ht (by omega)
      | lst ea _ => cases rz; obtain ⟨its, _, ht⟩ := lstAt hok ea; exact SeqAt.EqAt.none_list ht (by omega)
    | int i =>
      obtain ⟨t, rfl⟩ := ru
      cases re with
      | bl _ => simp [D.pure] at pe
      | emp _ => simp [D.pure] at pe
      | non => cases rz; exact SeqAt.EqAt.int_none i t
      | int j => obtain ⟨t', rfl⟩ := rz; exact SeqAt.EqAt.int_int i t j t'
      | str y => obtain ⟨t', rfl⟩ := rz; exact SeqAt.EqAt.int_str i t y t'
      | tup ea _ => cases rz; obtain ⟨its, _, ht⟩ := tupAt hok ea; exact SeqAt.EqAt.int_tuple i t ht (by omega)
      | lst ea _ => cases rz; obtain ⟨its, _, ht⟩ := lstAt hok ea; exact SeqAt.EqAt.int_list i t ht (by omega)
    | str x =>
      obtain ⟨t, rfl⟩ := ru
      cases re with
      | bl _ => simp [D.pure] at pe
      | emp _ => simp [D.pure] at pe
      | non => cases rz; exact SeqAt.EqAt.str_none x t
      | int j => obtain ⟨t', rfl⟩ := rz; exact SeqAt.EqAt.str_int x t j t'
      | str y => obtain ⟨t', rfl⟩ := rz; exact SeqAt.EqAt.str_str x t y t'
      | tup ea _ => cases rz; obtain ⟨its, _, ht⟩ := tupAt hok ea; exact SeqAt.EqAt.str_tuple x t ht (by omega)
      | lst ea _ => cases rz; obtain ⟨its, _, ht⟩ := lstAt hok ea; exact SeqAt.EqAt.str_list x t ht (by omega)
  | succ n ih =>
    intro A v w d e u z hd rd re ru rz pd pe hu
    by_cases h0 : d.dep ≤ n
    · exact ih A h0 rd re ru rz pd pe (by omega)
    · have ihn : ∀ {xs ys : List D}, deps xs ≤ n → pures xs = true → pures ys = true → ∀ (j : Nat) x y v w u z, xs[j]? = some x → ys[j]? = some y → Rep H v x → Rep H w y → RelV v u → RelV w z → SeqAt.EqAt A.in1 s u z (x.eqv y) :=
        fun {xs ys} hx px py j x y v w u z e1 e2 r1 r2 q1 q2 => ih A.in1 (Nat.le_trans (dep_get e1) hx) r1 r2 q1 q2 (pure_get px e1) (pure_get py e2) (by rw [in1_units]; omega)
      cases rd with
      | non => simp [D.dep] at h0
      | bl _ => simp [D.dep] at h0
      | int _ => simp [D.dep] at h0
      | str _ => simp [D.dep] at h0
      | emp _ => simp [D.dep] at h0
      | @tup a vs xs ea rs =>
        cases ru
        obtain ⟨its, qi, hi⟩ := tupAt hok ea
        rw [D.dep] at hd
        rw [D.pure] at pd
        cases re with
        | bl _ => simp [D.pure] at pe
        | emp _ => simp [D.pure] at pe
        | non => cases rz; exact SeqAt.EqAt.tuple_none hi (by omega)
        | int j => obtain ⟨t', rfl⟩ := rz; exact SeqAt.EqAt.tuple_int j t' hi (by omega)
        | str y => obtain ⟨t', rfl⟩ := rz; exact SeqAt.EqAt.tuple_str y t' hi (by omega)
        | lst eb _ => cases rz; obtain ⟨its2, _, ht⟩ := lstAt hok eb; exact SeqAt.EqAt.tuple_list hi ht (by omega)
        | @tup b ws ys eb rs2 =>
          cases rz
          rw [D.pure] at pe
          by_cases hab : a = b
          · subst hab
            rw [ea] at eb; cases eb
            rw [rs.inj rs2, D.eqv_refl]
            exact SeqAt.EqAt.same _
          · obtain ⟨its2, qj, hj⟩ := tupAt hok eb
            refine SeqAt.EqAt.of_refs hab ?_
            have q := SeqAt.RcAt.tuples (A := A) hi hj (by omega) (e := ansAt xs ys) (items_ans rs rs2 qi qj (ihn (by omega) pd pe))
            have l1 := qi.length
            have l2 := qj.length
            rw [List.size_toArray, List.size_toArray, ← l1, ← l2, rs.length, rs2.length, range_min_eqvs] at q
            rw [D.eqv]; exact q
      | @lst a vs xs ea rs =>
        cases ru
        obtain ⟨its, qi, hi⟩ := lstAt hok ea
        rw [D.dep] at hd
        rw [D.pure] at pd
        cases re with
        | bl _ => simp [D.pure] at pe
        | emp _ => simp [D.pure] at pe
        | non => cases rz; exact SeqAt.EqAt.list_none hi (by omega)
        | int j => obtain ⟨t', rfl⟩ := rz; exact SeqAt.EqAt.list_int j t' hi (by omega)
        | str y => obtain ⟨t', rfl⟩ := rz; exact SeqAt.EqAt.list_str y t' hi (by omega)
        | tup eb _ => cases rz; obtain ⟨its2, _, ht⟩ := tupAt hok eb; exact SeqAt.EqAt.list_tuple hi ht (by omega)
        | @lst b ws ys eb rs2 =>
          cases rz
          rw [D.pure] at pe
          by_cases hab : a = b
          · subst hab
            rw [ea] at eb; cases eb
            rw [rs.inj rs2, D.eqv_refl]
            exact SeqAt.EqAt.same _
          · obtain ⟨its2, qj, hj⟩ := lstAt hok eb
            refine SeqAt.EqAt.of_refs hab ?_
            have l1 := qi.length
            have l2 := qj.length
            have l3 := rs.length
            have l4 := rs2.length
            by_cases hl : xs.length = ys.length
            · have q := SeqAt.RcAt.lists (A := A) hi hj (by rw [List.size_toArray, List.size_toArray]; omega) (by omega) (e := ansAt xs ys) (items_ans rs rs2 qi qj (ihn (by omega) pd pe))
              have e1 : its.toArray.size = xs.length := by rw [List.size_toArray]; omega
              rw [e1, range_all_eqvs (ansAt xs ys) xs ys hl fun j x y e1 e2 => by unfold ansAt; rw [e1, e2]] at q
              rw [D.eqv]; exact q
            · rw [D.eqv, eqvs_len xs ys hl]
              exact SeqAt.RcAt.lists_lengths hi hj (by rw [List.size_toArray, List.size_toArray]; simp; omega) (by omega)
end
section
variable {X : Cx} {pins : List (Addr × Obj)} {σ : St} {H : Hp} {s : Shared}
/-- the two of a compare, both data without bools -/
theorem rcAt_rep {P : Program} {w : World} (hok : HOk P w H s.heap) (n : Nat) (A : Around) {v w : V} {d e : D} {u z : Value} (hd : d.dep ≤ n) (rd : Rep H v d) (re : Rep H w e) (ru : RelV v u) (rz : RelV w z) (pd : d.pure = true) (pe : e.pure = true) (hu : A.units + n < cLine) :
    SeqAt.RcAt A s u z (d.eqv e) ∧ SeqAt.RcNeAt A s u z (!(d.eqv e)) := by
  have ihn : ∀ {xs ys : List D}, deps xs + 1 ≤ n → pures xs = true → pures ys = true → ∀ (j : Nat) x y v w u z, xs[j]? = some x → ys[j]? = some y → Rep H v x → Rep H w y → RelV v u → RelV w z → SeqAt.EqAt A.in1 s u z (x.eqv y) :=
    fun {xs ys} hx px py j x y v w u z e1 e2 r1 r2 q1 q2 => eqAt_n hok (n - 1) A.in1 (Nat.le_trans (dep_get e1) (by omega)) r1 r2 q1 q2 (pure_get px e1) (pure_get py e2) (by rw [in1_units]; omega)
  cases rd with
  | bl _ => simp [D.pure] at pd
  | emp _ => simp [D.pure] at pd
  | non =>
    cases ru
    cases re with
    | bl _ => simp [D.pure] at pe
    | emp _ => simp [D.pure] at pe
    | non => cases rz; exact ⟨SeqAt.RcAt.none_none, SeqAt.RcNeAt.none_none⟩
    | int j => obtain ⟨t, rfl⟩ := rz; exact ⟨SeqAt.RcAt.none_int j t, SeqAt.RcNeAt.none_int j t⟩
    | str y => obtain ⟨t, rfl⟩ := rz; exact ⟨SeqAt.RcAt.none_str y t, SeqAt.RcNeAt.none_str y t⟩
    | tup ea _ => cases rz; obtain ⟨its, _, ht⟩ := tupAt hok ea; exact ⟨SeqAt.RcAt.none_tuple ht (by omega), SeqAt.RcNeAt.none_tuple ht (by omega)⟩
    | lst ea _ => cases rz; obtain ⟨its, _, ht⟩ := lstAt hok ea; exact ⟨SeqAt.RcAt.none_list ht (by omega), SeqAt.RcNeAt.none_list ht (by omega)⟩
  | int i =>
    obtain ⟨t, rfl⟩ := ru
    cases re with
    | bl _ => simp [D.pure] at pe
    | emp _ => simp [D.pure] at pe
    | non => cases rz; exact ⟨SeqAt.RcAt.int_none i t, SeqAt.RcNeAt.int_none i t⟩
    | int j => obtain ⟨t', rfl⟩ := rz; exact ⟨SeqAt.RcAt.int_int i t j t', SeqAt.RcNeAt.int_int i t j t'⟩
    | str y => obtain ⟨t', rfl⟩ := rz; exact ⟨SeqAt.RcAt.int_str i t y t', SeqAt.RcNeAt.int_str i t y t'⟩
    | tup ea _ => cases rz; obtain ⟨its, _, ht⟩ := tupAt hok ea; exact ⟨SeqAt.RcAt.int_tuple i t ht (by omega), SeqAt.RcNeAt.int_tuple i t ht (by omega)⟩
    | lst ea _ => cases rz; obtain ⟨its, _, ht⟩ := lstAt hok ea; exact ⟨SeqAt.RcAt.int_list i t ht (by omega), SeqAt.RcNeAt.int_list i t ht (by omega)⟩
  | str x =>
    obtain ⟨t, rfl⟩ := ru
    cases re with
    | bl _ => simp [D.pure] at pe
    | emp _ => simp [D.pure] at pe
    | non => cases rz; exact ⟨SeqAt.RcAt.str_none x t, SeqAt.RcNeAt.str_none x t⟩
    | int j => obtain ⟨t', rfl⟩ := rz; exact ⟨SeqAt.RcAt.str_int x t j t', SeqAt.RcNeAt.str_int x t j t'⟩
    | str y => obtain ⟨t', rfl⟩ := rz; exact ⟨SeqAt.RcAt.str_str x t y t', SeqAt.RcNeAt.str_str x t y t'⟩
    | tup ea _ => cases rz; obtain ⟨its, _, ht⟩ := tupAt hok ea; exact ⟨SeqAt.RcAt.str_tuple x t ht (by omega), SeqAt.RcNeAt.str_tuple x t ht (by omega)⟩
    | lst ea _ => cases rz; obtain ⟨its, _, ht⟩ := lstAt hok ea; exact ⟨SeqAt.RcAt.str_list x t ht (by omega), SeqAt.RcNeAt.str_list x t ht (by omega)⟩
  | @tup a vs xs ea rs =>
    cases ru
    obtain ⟨its, qi, hi⟩ := tupAt hok ea
    rw [D.dep] at hd
    rw [D.pure] at pd
    cases re with
    | bl _ => simp [D.pure] at pe
    | emp _ => simp [D.pure] at pe
    | non => cases rz; exact ⟨SeqAt.RcAt.tuple_none hi (by omega), SeqAt.RcNeAt.tuple_none hi (by omega)⟩
    | int j => obtain ⟨t', rfl⟩ := rz; exact ⟨SeqAt.RcAt.tuple_int j t' hi (by omega), SeqAt.RcNeAt.tuple_int j t' hi (by omega)⟩
    | str y => obtain ⟨t', rfl⟩ := rz; exact ⟨SeqAt.RcAt.tuple_str y t' hi (by omega), SeqAt.RcNeAt.tuple_str y t' hi (by omega)⟩
    | lst eb _ => cases rz; obtain ⟨its2, _, ht⟩ := lstAt hok eb; exact ⟨SeqAt.RcAt.tuple_list hi ht (by omega), SeqAt.RcNeAt.tuple_list hi ht (by omega)⟩
    | @tup b ws ys eb rs2 =>
      cases rz
      rw [D.pure] at pe
      obtain ⟨its2, qj, hj⟩ := tupAt hok eb
      have l1 := qi.length
      have l2 := qj.length
      have q := SeqAt.RcAt.tuples (A := A) hi hj (by omega) (e := ansAt xs ys) (items_ans rs rs2 qi qj (ihn hd pd pe))
      have q' := SeqAt.RcNeAt.tuples (A := A) hi hj (by omega) (e := ansAt xs ys) (items_ans rs rs2 qi qj (ihn hd pd pe))
      rw [List.size_toArray, List.size_toArray, ← l1, ← l2, rs.length, rs2.length, range_min_eqvs] at q q'
      rw [D.eqv]; exact ⟨q, q'⟩
  | @lst a vs xs ea rs =>
    cases ru
    obtain ⟨its, qi, hi⟩ := lstAt hok ea
    rw [D.dep] at hd
    rw [D.pure] at pd
    cases re with
    | bl _ => simp [D.pure] at pe
    | emp _ => simp [D.pure] at pe
    | non => cases rz; exact ⟨SeqAt.RcAt.list_none hi (by omega), SeqAt.RcNeAt.list_none hi (by omega)⟩
    | int j => obtain ⟨t', rfl⟩ := rz; exact ⟨SeqAt.RcAt.list_int j t' hi (by omega), SeqAt.RcNeAt.list_int j t' hi (by omega)⟩
    | str y => obtain ⟨t', rfl⟩ := rz; exact ⟨SeqAt.RcAt.list_str y t' hi (by omega), SeqAt.RcNeAt.list_str y t' hi (by omega)⟩
    | tup eb _ => cases rz; obtain ⟨its2, _, ht⟩ := tupAt hok eb; exact ⟨SeqAt.RcAt.list_tuple hi ht (by omega), SeqAt.RcNeAt.list_tuple hi ht (by omega)⟩
    | @lst b ws ys eb rs2 =>
      cases rz
      rw [D.pure] at pe
      obtain ⟨its2, qj, hj⟩ := lstAt hok eb
      have l1 := qi.length
      have l2 := qj.length
      have l3 := rs.length
      have l4 := rs2.length
      by_cases hl : xs.length = ys.length
      · have sz : its.toArray.size = its2.toArray.size := by rw [List.size_toArray, List.size_toArray]; omega
        have q := SeqAt.RcAt.lists (A := A) hi hj sz (by omega) (e := ansAt xs ys) (items_ans rs rs2 qi qj (ihn hd pd pe))
        have q' := SeqAt.RcNeAt.lists (A := A) hi hj sz (by omega) (e := ansAt xs ys) (items_ans rs rs2 qi qj (ihn hd pd pe))
        have e1 : its.toArray.size = xs.length := by rw [List.size_toArray]; omega
        rw [e1, range_all_eqvs (ansAt xs ys) xs ys hl fun j x y e1 e2 => by unfold ansAt; rw [e1, e2]] at q q'
        rw [D.eqv]; exact ⟨q, q'⟩
      · rw [D.eqv, eqvs_len xs ys hl]
        have sz : (its.toArray.size != its2.toArray.size) = true := by rw [List.size_toArray, List.size_toArray]; simp; omega
        exact ⟨SeqAt.RcAt.lists_lengths hi hj sz (by omega), SeqAt.RcNeAt.lists_lengths hi hj sz (by omega)⟩
def rEqD (n : Nat) : R2 := fun x y H Q => ∃ d e, Rep H x d ∧ Rep H y e ∧ d.pure = true ∧ e.pure = true ∧ d.dep ≤ n ∧ Q (.bl (d.eqv e)) H
def rNeD (n : Nat) : R2 := fun x y H Q => ∃ d e, Rep H x d ∧ Rep H y e ∧ d.pure = true ∧ e.pure = true ∧ d.dep ≤ n ∧ Q (.bl (!(d.eqv e))) H
theorem op_eqD {n : Nat} (hu : X.A.units + n < cLine) : OpR X (compareOp .Eq) (rEqD n) := by
  intro pins s σ H x y v u Q I rx ry h
  obtain ⟨d, e, rd, re, pd, pe, hd, q⟩ := h
  exact (rcAt_rep I.hok n X.A hd rd re rx ry pd pe hu).1 X.prog X.w X.xe _ ⟨.bl _, H, I, rfl, q⟩
theorem op_neD {n : Nat} (hu : X.A.units + n < cLine) : OpR X (compareOp .NotEq) (rNeD n) := by
  intro pins s σ H x y v u Q I rx ry h
  obtain ⟨d, e, rd, re, pd, pe, hd, q⟩ := h
  exact (rcAt_rep I.hok n X.A hd rd re rx ry pd pe hu).2 X.prog X.w X.xe _ ⟨.bl _, H, I, rfl, q⟩
end
end L3

namespace L3
open PySem PySem.Spec PyProof.Rows L2
section
variable {X : Cx}
/-! ### operations by the values' kinds -/
def rAddG : R2 := fun x y H Q => match x, y with
  | .int i, .int j => Q (.int (i + j)) H
  | .str a, .str b => a.length + b.length ≤ sizeLine ∧ Q (.str (a ++ b)) H
  | .ref a, .ref b => ∃ xs zs, H a = some (.lst xs) ∧ H b = some (.lst zs) ∧ xs.length + zs.length ≤ sizeLine ∧ New H (.lst (xs ++ zs)) Q
  | _, _ => False
theorem op_addG : OpR X (binaryOp .Add) rAddG := by
  intro pins s σ H x y v u Q I rx ry q
  cases x <;> cases y <;> first
    | exact False.elim q
    | exact op_add pins s σ H _ _ v u Q I rx ry ⟨_, _, rfl, rfl, q⟩
    | exact op_add_str pins s σ H _ _ v u Q I rx ry ⟨_, _, rfl, rfl, q.1, q.2⟩
    | (obtain ⟨xs, zs, h1, h2, h3, h4⟩ := q; exact op_cat pins s σ H _ _ v u Q I rx ry ⟨_, _, xs, zs, rfl, rfl, h1, h2, h3, fun p n => h4.at n⟩)
def rEqG (n : Nat) : R2 := fun x y H Q => match x, y with
  | .int i, .int j => Q (.bl (decide (i = j))) H
  | .bl a, .bl b => Q (.bl (decide (a = b))) H
  | .str a, .str b => Q (.bl (decide (a = b))) H
  | x, y => rEqD n x y H Q
def rNeG (n : Nat) : R2 := fun x y H Q => match x, y with
  | .int i, .int j => Q (.bl (!decide (i = j))) H
  | .bl a, .bl b => Q (.bl (!decide (a = b))) H
  | .str a, .str b => Q (.bl (!decide (a = b))) H
  | x, y => rNeD n x y H Q
theorem decI {i j : Int} : decide (V.int i = V.int j) = decide (i = j) := by simp
theorem decB {i j : Bool} : decide (V.bl i = V.bl j) = decide (i = j) := by simp
theorem decS {i j : Str} : decide (V.str i = V.str j) = decide (i = j) := by simp
theorem op_eqG {n : Nat} (hu : X.A.units + n < cLine) : OpR X (compareOp .Eq) (rEqG n) := by
  intro pins s σ H x y v u Q I rx ry q
  cases x <;> cases y <;> first
    | exact op_eqD hu pins s σ H _ _ v u Q I rx ry q
    | (refine op_eq pins s σ H _ _ v u Q I rx ry ⟨rfl, ?_⟩; rw [decI]; exact q)
    | (refine op_eq pins s σ H _ _ v u Q I rx ry ⟨rfl, ?_⟩; rw [decB]; exact q)
    | (refine op_eq pins s σ H _ _ v u Q I rx ry ⟨rfl, ?_⟩; rw [decS]; exact q)
theorem op_neG {n : Nat} (hu : X.A.units + n < cLine) : OpR X (compareOp .NotEq) (rNeG n) := by
  intro pins s σ H x y v u Q I rx ry q
  cases x <;> cases y <;> first
    | exact op_neD hu pins s σ H _ _ v u Q I rx ry q
    | (refine op_ne pins s σ H _ _ v u Q I rx ry ⟨rfl, ?_⟩; rw [decI]; exact q)
    | (refine op_ne pins s σ H _ _ v u Q I rx ry ⟨rfl, ?_⟩; rw [decB]; exact q)
    | (refine op_ne pins s σ H _ _ v u Q I rx ry ⟨rfl, ?_⟩; rw [decS]; exact q)
/-- xs[i] of a list or a tuple -/
def rIxG (K : PySem.W.Frag) : R2 := fun x y H Q => ∃ p xs i v, x = .ref p ∧ y = .int i ∧ (SqL K H p xs ∨ SqT K H p xs) ∧ atI xs i = some v ∧ Q v H
theorem ix_G : IxR X (rIxG X.K) := by
  intro value slice pins s σ H x y v u Q I rx ry q hs
  obtain ⟨p, xs, i, w, h1, h2, h3 | h3, h4, h5⟩ := q
  · exact ix_list value slice pins s σ H x y v u Q I rx ry ⟨p, xs, i, w, h1, h2, h3, h4, h5⟩ hs
  · exact ix_tup value slice pins s σ H x y v u Q I rx ry ⟨p, xs, i, w, h1, h2, h3, h4, h5⟩ hs
/-- a walk over a list or a tuple -/
def iSeq (K : PySem.W.Frag) (tl : TE) : TI := fun σ H R => tl σ H fun x H1 => ∃ a, x = .ref a ∧ (((∃ xs, SqL K H1 a xs) ∧ R (Itl K a) H1) ∨ ((∃ xs, SqT K H1 a xs) ∧ R (Itt K a) H1))
/-! ### and, or of any values -/
def tAndG (K : PySem.W.Frag) (ta tb : TE) : TE := fun σ H Q => ta σ H fun x H1 => ∃ k, TruV K x H1 k ∧ if k = true then tb σ H1 Q else Q x H1
def tOrG (K : PySem.W.Frag) (ta tb : TE) : TE := fun σ H Q => ta σ H fun x H1 => ∃ k, TruV K x H1 k ∧ if k = true then Q x H1 else tb σ H1 Q
def tNotG (K : PySem.W.Frag) (ta : TE) : TE := fun σ H Q => ta σ H fun x H1 => ∃ k, TruV K x H1 k ∧ Q (.bl (!k)) H1
variable {a b : Expr} {rest : List Expr} {ta tb : TE} {pos : Pos}
theorem pe_andG (ha : PE X a ta) (hb : PE X (.BoolOp .And (b :: rest) pos) tb) : PE X (.BoolOp .And (a :: b :: rest) pos) (tAndG X.K ta tb) := by
  intro pins s σ H Q I h
  refine BoolOp_and (thn (ha pins s σ H _ I h) fun v s1 ⟨x, H1, I1, r1, k, tv, q1⟩ => ?_)
  refine thn (tru_ok pins s1 σ H1 x v (fun c H2 => H2 = H1 ∧ c = k) I1 r1 ⟨k, tv, rfl, rfl⟩) fun c s2 ⟨H2, I2, e1, e2⟩ => ?_
  subst e1 e2
  cases c with
  | true => rw [if_pos rfl] at q1; exact hb pins s2 σ H2 Q I2 q1
  | false => rw [if_neg Bool.false_ne_true] at q1; exact ⟨x, H2, I2, r1, q1⟩
theorem pe_orG (ha : PE X a ta) (hb : PE X (.BoolOp .Or (b :: rest) pos) tb) : PE X (.BoolOp .Or (a :: b :: rest) pos) (tOrG X.K ta tb) := by
  intro pins s σ H Q I h
  refine BoolOp_or (thn (ha pins s σ H _ I h) fun v s1 ⟨x, H1, I1, r1, k, tv, q1⟩ => ?_)
  refine thn (tru_ok pins s1 σ H1 x v (fun c H2 => H2 = H1 ∧ c = k) I1 r1 ⟨k, tv, rfl, rfl⟩) fun c s2 ⟨H2, I2, e1, e2⟩ => ?_
  subst e1 e2
  cases c with
  | true => rw [if_pos rfl] at q1; exact ⟨x, H2, I2, r1, q1⟩
  | false => rw [if_neg Bool.false_ne_true] at q1; exact hb pins s2 σ H2 Q I2 q1
theorem pe_notG (ha : PE X a ta) : PE X (.UnaryOp .Not a pos) (tNotG X.K ta) := by
  intro pins s σ H Q I h
  refine UnaryOp_ (thn (ha pins s σ H _ I h) fun v s1 ⟨x, H1, I1, r1, k, tv, q1⟩ => ?_)
  refine not_of (thn (tru_ok pins s1 σ H1 x v (fun c H2 => H2 = H1 ∧ c = k) I1 r1 ⟨k, tv, rfl, rfl⟩) fun c s2 ⟨H2, I2, e1, e2⟩ => ?_)
  subst e1 e2
  exact ⟨.bl (!c), H2, I2, rfl, q1⟩
end
section
variable {X : Cx} {tg : Expr}
theorem pi_seq {l : Expr} {tl : TE} (hl : PE X l tl) : PI X tg l (iSeq X.K tl) := by
  intro pins s σ H R I h
  refine thn (hl pins s σ H _ I h) fun v s1 ⟨x, H1, I1, r1, a, ex, q⟩ => ?_
  subst ex
  cases r1
  rcases q with ⟨⟨xs, hx⟩, q⟩ | ⟨⟨xs, hx⟩, q⟩
  · obtain ⟨its, r, p, hz⟩ := I1.list hx
    refine wpAny_pyIter_list p.isList ?_
    refine ⟨s1.heap.objs.size, [s1.heap.objs.size], _, _, H1, rfl, I1.kept (t' := s1.toks) fun b o e => Heap.get?_push_of_some _ e, turn_list a _, ⟨_, Heap.get?_push_size _ rfl, rfl, rfl⟩, fun b hb => ?_, q⟩
    have e : b = s1.heap.objs.size := by simpa using hb
    subst e
    exact I1.fpOk (Nat.le_refl _) I1.fresh
  · obtain ⟨its, r, p, hz⟩ := I1.tuple hx
    refine wpAny_pyIter_tuple (IsTup.isT p) ?_
    refine ⟨s1.heap.objs.size, [s1.heap.objs.size], _, _, H1, rfl, I1.kept (t' := s1.toks) fun b o e => Heap.get?_push_of_some _ e, turn_tuple a _, ⟨_, Heap.get?_push_size _ rfl, rfl, rfl⟩, fun b hb => ?_, q⟩
    have e : b = s1.heap.objs.size := by simpa using hb
    subst e
    exact I1.fpOk (Nat.le_refl _) I1.fresh

/-! ### calls of the text's defs, in one word -/
/-- the def at the name x keeps the promise sp within k frames -/
def Cal (P : Program) (w : World) (K : PySem.W.Frag) (mg : Str → Option Value) (base : Heap) (CX : CXT) (k : Nat) (x : Str) (sp : Sp) : Prop :=
  ∃ f fd ps, FnOk P w K mg base CX k f fd ps sp ∧ mg x = some (.ref f) ∧ PySem.W.keepIn K (.ref f) = true ∧ Binds K fd ps []
def tCallF (sp : Sp) (E : XK) (t : TA) : TE := fun σ H Q => t σ H fun vs H1 => sp vs H1 Q E
theorem pe_callF {CX : CXT} {k : Nat} {x : Str} {sp : Sp} {E : XK} {e : Expr} {es : List Expr} {t : TA} {p pos : Pos} (C : Cal X.prog X.w X.K X.mg X.base CX k x sp) (hr : Room k X.A) (hx : Passes CX X E) (hg : Gl X x)
    (ha : PA X (e :: es) t) (hdb : (x == ("__debug__" : Str)) = false := by decide) (he : starEach (e :: es) X.env = (false, eval e X.env) :: starEach es X.env := by rfl) (hpl : (backTo pos (starEach es X.env)).any (·.1) = false := by rfl) :
    PE X (.Call (.Name x p) (e :: es) [] pos) (tCallF sp E t) := by
  obtain ⟨f, fd, ps, F, hm, hk, hb⟩ := C
  have q := pe_call (dvs := []) (ds := []) F hr hg hm hk hb .nil hx ha hdb he hpl (p := p) (pos := pos)
  intro pins s σ H Q I h
  refine q pins s σ H Q I ?_
  show t σ H fun vs H1 => sp (vs ++ []) H1 Q E
  simp only [List.append_nil]
  exact h
theorem Cal.mono {P : Program} {w : World} {K : PySem.W.Frag} {mg : Str → Option Value} {base : Heap} {CX : CXT} {j k : Nat} {x : Str} {sp : Sp} (C : Cal P w K mg base CX j x sp) (h : j ≤ k) : Cal P w K mg base CX k x sp := by
  obtain ⟨f, fd, ps, F, r⟩ := C
  exact ⟨f, fd, ps, F.mono h, r⟩
end
/-- what the top has written of a def: its address, object, code -/
structure Fd (K : PySem.W.Frag) (mg : Str → Option Value) (x : Str) (st : Stmt) (f : Addr) : Prop where
  ex : ∃ fd, Fun K x x st f fd
  at_ : mg x = some (.ref f)
theorem fd_mk {K : PySem.W.Frag} {h : Heap} {mg : Str → Option Value} {x : Str} {st : Stmt} {f : Addr} {oc : Value} {od an : Option Addr} {osl : Array (Option Value)} {kV doc pm cdv ct : Value} (X : K.In h) (G : h.Ns mainGlobals mg)
    (a : PySem.W.nsIn K mainGlobals x = some (some (.ref f))) (l : K.lookup f = some ⟨oc, od, .func (PySem.W.fnOf x x (defArgs st) (defBody st) (defScope st) .none kV doc pm an cdv ct), osl⟩)
    (c : PySem.W.codeIn K cdv x = true) (k : PySem.W.keepIn K (.ref f) = true) : Fd K mg x st f := ⟨⟨_, fun_mk l c k⟩, PySem.W.mg_of X G a⟩
end L3

namespace L3
open PySem PySem.Spec PyProof.Rows L2
theorem hu_n {A : Around} {k : Nat} (hr : Room k A) : A.units + 150 < cLine := by have := hr.un; omega
/-! ### items by an open place -/
theorem atI_mem {α : Type} {xs : List α} {i : Int} (h0 : 0 ≤ i) (h1 : i < xs.length) : ∃ v, atI xs i = some v ∧ v ∈ xs := by
  have hlt : i.toNat < xs.length := by omega
  refine ⟨xs[i.toNat], ?_, List.getElem_mem hlt⟩
  have e : ((i.toNat : Nat) : Int) = i := by omega
  have := atI_nat (xs := xs) (j := i.toNat) (v := xs[i.toNat]) (List.getElem?_eq_getElem hlt)
  rw [e] at this
  exact this
theorem atI_ints {ns : List Int} {i : Int} (h0 : 0 ≤ i) (h1 : i < ns.length) : ∃ n, atI (ns.map V.int) i = some (.int n) ∧ n ∈ ns := by
  obtain ⟨v, e, m⟩ := atI_mem (xs := ns.map V.int) h0 (by rw [List.length_map]; exact h1)
  obtain ⟨n, hn, rfl⟩ := List.mem_map.mp m
  exact ⟨n, e, hn⟩
theorem sizeBig {n : Nat} (h : n ≤ 100000) : n < sizeLine := Nat.lt_of_le_of_lt h (by decide)
theorem sizeBig' {n : Nat} (h : n ≤ 100000) : n ≤ sizeLine := Nat.le_of_lt (sizeBig h)
/-! ### a comprehension by an invariant over the turn, the items made, the block's values, the heap -/
section
variable {g : TG} {tt : TT} {te : TE} {acc : Addr} {σ0 : St} {H0 : Hp} {Q : Hp → Prop}
/-- what a turn that makes an item must reach -/
@[irreducible] def CPost (Pv : Nat → List V → St → Hp → Prop) (acc : Addr) (n i : Nat) (σ2 : St) (y : V) (H4 : Hp) : Prop :=
  ∃ ys, H4 acc = some (.lst ys) ∧ ys.length < sizeLine ∧ ∃ m', m' < n - i ∧ m' = n - (i + 1) ∧ i + 1 ≤ n ∧ ∃ zs, Pv (i + 1) zs σ2 (upd H4 acc (.lst (ys ++ [y])))
@[irreducible] def CSkip (Pv : Nat → List V → St → Hp → Prop) (n i : Nat) (σ2 : St) (H3 : Hp) : Prop := ∃ m', m' < n - i ∧ m' = n - (i + 1) ∧ i + 1 ≤ n ∧ ∃ zs, Pv (i + 1) zs σ2 H3
theorem cpost {Pv : Nat → List V → St → Hp → Prop} {n i : Nat} {σ2 : St} {y : V} {H4 : Hp} {ys : List V} (h1 : H4 acc = some (.lst ys)) (h2 : ys.length < sizeLine) (h3 : i < n) (h4 : Pv (i + 1) (ys ++ [y]) σ2 (upd H4 acc (.lst (ys ++ [y])))) : CPost Pv acc n i σ2 y H4 :=
  by unfold CPost; exact ⟨ys, h1, h2, n - (i + 1), by omega, rfl, h3, _, h4⟩
theorem cskip {Pv : Nat → List V → St → Hp → Prop} {n i : Nat} {σ2 : St} {H4 : Hp} {ys : List V} (h3 : i < n) (h4 : Pv (i + 1) ys σ2 H4) : CSkip Pv n i σ2 H4 := by unfold CSkip; exact ⟨n - (i + 1), by omega, rfl, h3, _, h4⟩
theorem comp_list {K : PySem.W.Frag} {a : Addr} {xs : List V} (Pv : Nat → List V → St → Hp → Prop) (h0 : Pv 0 [] σ0 H0) (hl : ∀ i ys σ H, Pv i ys σ H → SqL K H a xs)
    (hs : ∀ i ys x σ H, xs[i]? = some x → i < xs.length → Pv i ys σ H → g x σ H fun σ2 H2 => tt σ2 H2 fun b H3 => if b = true then te σ2 H3 (CPost Pv acc xs.length i σ2) else CSkip Pv xs.length i σ2 H3)
    (hd : ∀ ys σ H, Pv xs.length ys σ H → Q H) : CompW (Itl K a) g tt te acc σ0 H0 Q := by
  refine ⟨fun i m σ H => m = xs.length - i ∧ i ≤ xs.length ∧ ∃ ys, Pv i ys σ H, ⟨xs.length, by simp, Nat.zero_le _, [], h0⟩, ?_⟩
  rintro i m σ H ⟨rfl, hi, ys, p⟩
  have q := hl i ys σ H p
  by_cases hlt : i < xs.length
  · refine .inr ⟨⟨xs, xs[i], q, by simp [hlt]⟩, fun x H1 y => ?_⟩
    obtain ⟨e, y⟩ := y
    subst e
    have z := hs i ys x σ _ (y xs q) hlt p
    unfold CPost CSkip at z
    exact z
  · have e : i = xs.length := by omega
    subst e
    exact .inl ⟨⟨xs, q, Nat.le_refl _⟩, hd ys σ H p⟩
theorem comp_tup {K : PySem.W.Frag} {a : Addr} {xs : List V} (Pv : Nat → List V → St → Hp → Prop) (h0 : Pv 0 [] σ0 H0) (hl : ∀ i ys σ H, Pv i ys σ H → SqT K H a xs)
    (hs : ∀ i ys x σ H, xs[i]? = some x → i < xs.length → Pv i ys σ H → g x σ H fun σ2 H2 => tt σ2 H2 fun b H3 => if b = true then te σ2 H3 (CPost Pv acc xs.length i σ2) else CSkip Pv xs.length i σ2 H3)
    (hd : ∀ ys σ H, Pv xs.length ys σ H → Q H) : CompW (Itt K a) g tt te acc σ0 H0 Q := by
  refine ⟨fun i m σ H => m = xs.length - i ∧ i ≤ xs.length ∧ ∃ ys, Pv i ys σ H, ⟨xs.length, by simp, Nat.zero_le _, [], h0⟩, ?_⟩
  rintro i m σ H ⟨rfl, hi, ys, p⟩
  have q := hl i ys σ H p
  by_cases hlt : i < xs.length
  · refine .inr ⟨⟨xs, xs[i], q, by simp [hlt]⟩, fun x H1 y => ?_⟩
    obtain ⟨e, y⟩ := y
    subst e
    have z := hs i ys x σ _ (y xs q) hlt p
    unfold CPost CSkip at z
    exact z
  · have e : i = xs.length := by omega
    subst e
    exact .inl ⟨⟨xs, q, Nat.le_refl _⟩, hd ys σ H p⟩
theorem comp_range {lo : Int} {n : Nat} (Pv : Nat → List V → St → Hp → Prop) (h0 : Pv 0 [] σ0 H0)
    (hs : ∀ i ys σ H, i < n → Pv i ys σ H → g (.int (lo + i)) σ H fun σ2 H2 => tt σ2 H2 fun b H3 => if b = true then te σ2 H3 (CPost Pv acc n i σ2) else CSkip Pv n i σ2 H3)
    (hd : ∀ ys σ H, Pv n ys σ H → Q H) : CompW (Itr lo n) g tt te acc σ0 H0 Q := by
  refine ⟨fun i m σ H => m = n - i ∧ i ≤ n ∧ ∃ ys, Pv i ys σ H, ⟨n, by simp, Nat.zero_le _, [], h0⟩, ?_⟩
  rintro i m σ H ⟨rfl, hi, ys, p⟩
  by_cases hlt : i < n
  · refine .inr ⟨hlt, fun x H1 y => ?_⟩
    obtain ⟨e, y⟩ := y
    subst e y
    have z := hs i ys σ _ hlt p
    unfold CPost CSkip at z
    exact z
  · have e : i = n := by omega
    subst e
    exact .inl ⟨Nat.le_refl _, hd ys σ H p⟩
end
end L3
namespace L3
open PySem PySem.Spec PyProof.Rows L2
end L3
namespace L3
open PySem PySem.Spec PyProof.Rows L2
theorem cmL {i j : Int} (h : -(2 ^ 64) < i ∧ i < 2 ^ 64) : CMul i j := .inl h
theorem cmR {i j : Int} (h : -(2 ^ 64) < j ∧ j < 2 ^ 64) : CMul i j := .inr h
theorem rm_trans {p : Addr} {H H1 H2 : Hp} (s1 : Same (rm p H) H1) (s2 : Same (rm p H1) H2) : Same (rm p H) H2 := (rm_mono s1).trans s2
theorem rm_of' {p : Addr} {H H' : Hp} (s : Same H H') : Same (rm p H) (rm p H') := rm_mono (rm_same.trans s)
theorem rm_fresh {p l : Addr} {H : Hp} (h : H l = none) : rm p H l = none := by
  unfold rm; split <;> first | rfl | exact h
theorem rm_look {p b : Addr} {H H' : Hp} {o : HO} (s : Same (rm p H) H') (h : H b = some o) (hb : b ≠ p) : H' b = some o := s b o (by rw [rm_ne hb]; exact h)
theorem rm_free {p l : Addr} {H H' : Hp} {o : HO} (s : Same (rm p H) H') (h : H' l = none) (hp : H' p = some o) : H l = none := by
  have e := s.free h
  rwa [rm_ne (fun z => by rw [z, hp] at h; cases h)] at e
theorem Fd.none {P : Program} {w : World} {K : PySem.W.Frag} {mg : Str → Option Value} {base : Heap} {x : Str} {st : Stmt} {f : Addr} {ps : List Str} {sp : Sp} (F : Fd K mg x st f)
    (hb : ∀ (kV doc pm : Value) (an : Option Addr) (cdv ct : Value) (us : List Value), us.length = ps.length → bindArgs (PySem.W.fnOf x x (defArgs st) (defBody st) (defScope st) .none kV doc pm an cdv ct) ⟨us, []⟩ = pure (ps.zip us))
    (h : ∀ vs H Q E, ¬ sp vs H Q E) : Cal P w K mg base CX0 0 x sp := by
  obtain ⟨⟨fd, F1⟩, F2⟩ := F
  exact ⟨f, fd, ps, ⟨fun vs H Q E q => (h vs H Q E q).elim, fun A outer s H args us vs Q E _ _ _ _ q => (h vs H Q E q).elim⟩, F2, F1.kp, F1.binds hb⟩
end L3
namespace L3
open PySem
theorem bt_abs : bootBuiltins "abs" = some (.builtin "abs") := by decide +kernel
theorem bt_len : bootBuiltins "len" = some (.builtin "len") := by decide +kernel
theorem bt_isinstance : bootBuiltins "isinstance" = some (.builtin "isinstance") := by decide +kernel
theorem bt_max : bootBuiltins "max" = some (.builtin "max") := by decide +kernel
theorem bt_min : bootBuiltins "min" = some (.builtin "min") := by decide +kernel
theorem bt_sum : bootBuiltins "sum" = some (.builtin "sum") := by decide +kernel
theorem bt_all : bootBuiltins "all" = some (.builtin "all") := by decide +kernel
theorem bt_sorted : bootBuiltins "sorted" = some (.builtin "sorted") := by decide +kernel
theorem bt_repr : bootBuiltins "repr" = some (.builtin "repr") := by decide +kernel
theorem bt_int : bootBuiltins "int" = some (.type "int") := by decide +kernel
theorem bt_bool : bootBuiltins "bool" = some (.type "bool") := by decide +kernel
theorem bt_str : bootBuiltins "str" = some (.type "str") := by decide +kernel
theorem bt_tuple : bootBuiltins "tuple" = some (.type "tuple") := by decide +kernel
theorem bt_list : bootBuiltins "list" = some (.type "list") := by decide +kernel
theorem bt_dict : bootBuiltins "dict" = some (.type "dict") := by decide +kernel
theorem bt_set : bootBuiltins "set" = some (.type "set") := by decide +kernel
theorem bt_range : bootBuiltins "range" = some (.type "range") := by decide +kernel
theorem bt_enumerate : bootBuiltins "enumerate" = some (.type "enumerate") := by decide +kernel
theorem bt_zip : bootBuiltins "zip" = some (.type "zip") := by decide +kernel
theorem bt_reversed : bootBuiltins "reversed" = some (.type "reversed") := by decide +kernel
end L3

/-! the rules that speak of the written part, with it as a letter of its own (a comprehension's block has it under a binder) -/
namespace L3
open PySem PySem.Spec PyProof.Rows L2
section
variable {X : Cx} {a b e o l : Expr} {es rest : List Expr} {ta tb te to tl : TE} {t : TA} {pos : Pos}
theorem kIx (K : PySem.W.Frag) (hK : X.K = K := by rfl) : IxR X (rIxG K) := by subst hK; exact ix_G
theorem kAnd (K : PySem.W.Frag) (ha : PE X a ta) (hb : PE X (.BoolOp .And (b :: rest) pos) tb) (hK : X.K = K := by rfl) : PE X (.BoolOp .And (a :: b :: rest) pos) (tAndG K ta tb) := by subst hK; exact pe_andG ha hb
theorem kOr (K : PySem.W.Frag) (ha : PE X a ta) (hb : PE X (.BoolOp .Or (b :: rest) pos) tb) (hK : X.K = K := by rfl) : PE X (.BoolOp .Or (a :: b :: rest) pos) (tOrG K ta tb) := by subst hK; exact pe_orG ha hb
theorem kNot (K : PySem.W.Frag) (ha : PE X a ta) (hK : X.K = K := by rfl) : PE X (.UnaryOp .Not a pos) (tNotG K ta) := by subst hK; exact pe_notG ha
def rLen (K : PySem.W.Frag) : List V → Hp → VK → Prop := fun xs H Q => ∃ p ys, xs = [.ref p] ∧ (SqL K H p ys ∨ SqT K H p ys) ∧ Q (.int ys.length) H
theorem kLen (K : PySem.W.Frag) (hK : X.K = K := by rfl) : CallR X (.builtin "len") (rLen K) := by subst hK; exact call_len_seq
def tTru (K : PySem.W.Frag) (ta : TE) : TT := fun σ H Q => ta σ H fun x H' => ∃ k, TruV K x H' k ∧ Q k H'
theorem kTru (K : PySem.W.Frag) (ha : PE X a ta) (he : ∀ whole, isTrue a X.env whole = (do let v ← whole; standAt a.pos; holding [v] (truthy v))) (hK : X.K = K := by rfl) : PT X a (tTru K ta) := by subst hK; exact pt_truth ha he
def rIsi (K : PySem.W.Frag) : List V → Hp → VK → Prop := fun xs H Q => ∃ x T t b, xs = [x, .ty T] ∧ TyOf K H x t ∧ PySem.W.kitOne K t (.type T) = some b ∧ Q (.bl b) H
theorem kIsi (K : PySem.W.Frag) (hK : X.K = K := by rfl) : CallR X (.builtin "isinstance") (rIsi K) := by subst hK; exact call_isi
theorem kListC (K : PySem.W.Frag) (hK : X.K = K := by rfl) : CallR X (.type "list") (rListN K) := by subst hK; exact call_listN
theorem kTupleC (K : PySem.W.Frag) (hK : X.K = K := by rfl) : CallR X (.type "tuple") (rTupleN K) := by subst hK; exact call_tupleN
theorem kSl (K : PySem.W.Frag) (hK : X.K = K := by rfl) : SlR X (rSlN K) := by subst hK; exact sl_listN
theorem kSeq {tg : Expr} (K : PySem.W.Frag) (hl : PE X l tl) (hK : X.K = K := by rfl) : PI X tg l (iSeq K tl) := by subst hK; exact pi_seq hl
theorem kRev {k : Expr} {tk : TO} {p2 : Pos} (K : PySem.W.Frag) (he : PE X e te) (hk : PO X (some k) tk) (hK : X.K = K := by rfl) : PE X (.Subscript e (.Slice none none (some k) p2) pos) (tRev K te tk) := by subst hK; exact pe_rev he hk
def notStar : Expr → Bool
  | .Starred _ _ => false
  | _ => true
theorem star_cons {e : Expr} {es : List Expr} {env : Env} (h : notStar e = true) : starEach (e :: es) env = (false, eval e env) :: starEach es env := by
  cases e <;> first
    | rfl
    | cases h
theorem star_nil {env : Env} : starEach [] env = [] := rfl
theorem star_any {pos : Pos} {env : Env} : ∀ es : List Expr, es.all notStar = true → (backTo pos (starEach es env)).any (·.1) = false
  | [], _ => by rw [star_nil]; rfl
  | e :: r, h => by
    rw [List.all_cons, Bool.and_eq_true] at h
    rw [star_cons h.1]
    have := star_any (pos := pos) (env := env) r h.2
    unfold backTo at this ⊢
    rw [List.map_cons, List.any_cons, this]; rfl
theorem star_all {pos : Pos} {env : Env} : ∀ es : List Expr, es.all notStar = true → (backTo pos (starEach es env)).all (fun x => !x.1) = true
  | [], _ => by rw [star_nil]; rfl
  | e :: r, h => by
    rw [List.all_cons, Bool.and_eq_true] at h
    rw [star_cons h.1]
    have := star_all (pos := pos) (env := env) r h.2
    unfold backTo at this ⊢
    rw [List.map_cons, List.all_cons, this]; rfl
theorem all_head {e : Expr} {es : List Expr} (h : (e :: es).all notStar = true) : notStar e = true ∧ es.all notStar = true := by rw [List.all_cons, Bool.and_eq_true] at h; exact h
theorem paC (ha : PE X e te) (hr : PA X es t) (h : notStar e = true := by rfl) : PA X (e :: es) (tCons te t) := pa_cons ha hr (star_cons h)
theorem cF {CX : CXT} {k : Nat} {x : Str} {sp : Sp} {E : XK} {p pos : Pos} (C : Cal X.prog X.w X.K X.mg X.base CX k x sp) (hr : Room k X.A) (hx : Passes CX X E) (hg : Gl X x)
    (ha : PA X (e :: es) t) (hdb : (x == ("__debug__" : Str)) = false := by decide) (h : (e :: es).all notStar = true := by rfl) : PE X (.Call (.Name x p) (e :: es) [] pos) (tCallF sp E t) :=
  pe_callF C hr hx hg ha hdb (star_cons (all_head h).1) (star_any es (all_head h).2)
theorem cB {id : String} {r : List V → Hp → VK → Prop} {x : Str} {p pos : Pos} (hc : CallR X (.builtin id) r) (hg : Gl X x) (hm : X.mg x = none) (hv : bootBuiltins x = some (.builtin id)) (ha : PA X (e :: es) t) (hn : x ≠ "__name__" := by decide) (hdb : (x == ("__debug__" : Str)) = false := by decide)
    (h : (e :: es).all notStar = true := by rfl) : PE X (.Call (.Name x p) (e :: es) [] pos) (tCB r t) := pe_callB hc hg hm hv ha hn hdb (star_cons (all_head h).1) (star_any es (all_head h).2)
theorem cTy {T : String} {r : List V → Hp → VK → Prop} {x : Str} {p pos : Pos} (hc : CallR X (.type T) r) (hg : Gl X x) (hm : X.mg x = none) (hv : bootBuiltins x = some (.type T)) (ha : PA X (e :: es) t) (hn : x ≠ "__name__" := by decide) (hdb : (x == ("__debug__" : Str)) = false := by decide)
    (h : (e :: es).all notStar = true := by rfl) : PE X (.Call (.Name x p) (e :: es) [] pos) (tCB r t) := pe_callTy hc hg hm hv ha hn hdb (star_cons (all_head h).1) (star_any es (all_head h).2)
theorem cRange1 {ta : TA} {p pos : Pos} (hg : Gl X "range") (hm : X.mg "range" = none) (ha : PA X [a] ta) (h : notStar a = true := by rfl) : PE X (.Call (.Name "range" p) [a] [] pos) (tRng1 ta) := pe_range1 hg hm ha (by rw [star_cons h, star_nil])
theorem iRange1 {tg : Expr} {ta : TA} {p pos : Pos} (hg : Gl X "range") (hm : X.mg "range" = none) (ha : PA X [a] ta) (h : notStar a = true := by rfl) : PI X tg (.Call (.Name "range" p) [a] [] pos) (iRng1 ta) := pi_range1 hg hm ha (by rw [star_cons h, star_nil])
theorem iRange2 {tg : Expr} {ta : TA} {p pos : Pos} (hg : Gl X "range") (hm : X.mg "range" = none) (ha : PA X [a, b] ta) (h : notStar a = true := by rfl) (h' : notStar b = true := by rfl) : PI X tg (.Call (.Name "range" p) [a, b] [] pos) (iRng2 ta) :=
  pi_range2 hg hm ha (by rw [star_cons h, star_cons h', star_nil]) (by rw [star_cons h', star_nil])
theorem kBm {name : Str} {apos cpos : Pos} {T id : String} {r : V → List V → Hp → VK → Prop} (K : PySem.W.Frag) (pa : PlainAttrs T) (slot : Slot T name id) (hty : typeOf (.builtin id) = pure (.type "method_descriptor")) (hm : MtR X id r) (ho : PE X o to) (ha : PA X (e :: es) t)
    (hbase : attributeBase o name X.env (eval o X.env) = eval o X.env := by rfl) (h : (e :: es).all notStar = true := by rfl) (hl : decide ((e :: es).length < 30) = true := by rfl)
    (hline : (apos.endLine == cpos.line) = true := by rfl) (hK : X.K = K := by rfl) :
    PE X (.Call (.Attribute o name apos) (e :: es) [] cpos) (tBM K T r to t) := by
  subst hK
  refine pe_bm pa slot hty hm ho ha hbase ?_ hline (star_cons (all_head h).1) (star_any es (all_head h).2)
  rw [star_all (e :: es) h, Bool.true_and, Bool.and_eq_true]
  exact ⟨rfl, hl⟩
theorem kBm0 {name : Str} {apos cpos : Pos} {T id : String} {r : V → List V → Hp → VK → Prop} (K : PySem.W.Frag) (pa : PlainAttrs T) (slot : Slot T name id) (hty : typeOf (.builtin id) = pure (.type "method_descriptor")) (hm : MtR X id r) (ho : PE X o to)
    (hbase : attributeBase o name X.env (eval o X.env) = eval o X.env := by rfl) (hline : (apos.endLine == cpos.line) = true := by rfl) (hK : X.K = K := by rfl) : PE X (.Call (.Attribute o name apos) [] [] cpos) (tBM0 K T r to) := by subst hK; exact pe_bm0 pa slot hty hm ho hbase hline
theorem kIn (K : PySem.W.Frag) (hK : X.K = K := by rfl) : OpR X (compareOp .In) (rIn K false) := by subst hK; exact op_in_seq
theorem kNotIn (K : PySem.W.Frag) (hK : X.K = K := by rfl) : OpR X (compareOp .NotIn) (rIn K true) := by subst hK; exact op_notIn_seq
end
end L3

/-! the judgements as closed words: the elaborator must not look into them (it would run the model) -/
namespace L3
open PySem PySem.Spec PyProof.Rows L2
@[irreducible] def QE (X : Cx) (e : Expr) (t : TE) : Prop := PE X e t
@[irreducible] def QT (X : Cx) (e : Expr) (t : TT) : Prop := PT X e t
@[irreducible] def QW (X : Cx) (e : Expr) (t : TT) : Prop := PW X e t
@[irreducible] def QA (X : Cx) (es : List Expr) (t : TA) : Prop := PA X es t
@[irreducible] def QS (X : Cx) (s : Stmt) (t : TS) : Prop := PS X s t
@[irreducible] def QSs (X : Cx) (s : List Stmt) (t : TS) : Prop := PSs X s t
@[irreducible] def QG (X : Cx) (e : Expr) (t : TG) : Prop := PG X e t
@[irreducible] def QGs (X : Cx) (es : List Expr) (t : TGs) : Prop := PGs X es t
@[irreducible] def QI (X : Cx) (tg e : Expr) (t : TI) : Prop := PI X tg e t
@[irreducible] def QO (X : Cx) (e : Option Expr) (t : TO) : Prop := PO X e t
@[irreducible] def QTs (X : Cx) (es : List Expr) (t : TT) : Prop := PTs X es t
@[irreducible] def ROp (X : Cx) (f : Value → Value → Sem Value) (r : R2) : Prop := OpR X f r
@[irreducible] def RUn (X : Cx) (f : Value → Sem Value) (r : V → Hp → VK → Prop) : Prop := UnR X f r
@[irreducible] def RCall (X : Cx) (f : Value) (r : List V → Hp → VK → Prop) : Prop := CallR X f r
@[irreducible] def RIx (X : Cx) (r : R2) : Prop := IxR X r
@[irreducible] def RMt (X : Cx) (id : String) (r : V → List V → Hp → VK → Prop) : Prop := MtR X id r
@[irreducible] def RSl (X : Cx) (r : V → Option Int → Option Int → Hp → VK → Prop) : Prop := SlR X r
@[irreducible] def RSet (X : Cx) (r : TSet) : Prop := PSet X r
@[irreducible] def RIp (X : Cx) (op : Operator) (r : TIp) : Prop := PIp X op r
section
variable {X : Cx}
theorem QE.un {e : Expr} {t : TE} (h : QE X e t) : PE X e t := by unfold QE at h; exact h
theorem QE.mk {e : Expr} {t : TE} (h : PE X e t) : QE X e t := by unfold QE; exact h
theorem QT.un {e : Expr} {t : TT} (h : QT X e t) : PT X e t := by unfold QT at h; exact h
theorem QT.mk {e : Expr} {t : TT} (h : PT X e t) : QT X e t := by unfold QT; exact h
theorem QW.un {e : Expr} {t : TT} (h : QW X e t) : PW X e t := by unfold QW at h; exact h
theorem QW.mk {e : Expr} {t : TT} (h : PW X e t) : QW X e t := by unfold QW; exact h
theorem QA.un {es : List Expr} {t : TA} (h : QA X es t) : PA X es t := by unfold QA at h; exact h
theorem QA.mk {es : List Expr} {t : TA} (h : PA X es t) : QA X es t := by unfold QA; exact h
theorem QS.un {s : Stmt} {t : TS} (h : QS X s t) : PS X s t := by unfold QS at h; exact h
theorem QS.mk {s : Stmt} {t : TS} (h : PS X s t) : QS X s t := by unfold QS; exact h
theorem QSs.un {s : List Stmt} {t : TS} (h : QSs X s t) : PSs X s t := by unfold QSs at h; exact h
theorem QSs.mk {s : List Stmt} {t : TS} (h : PSs X s t) : QSs X s t := by unfold QSs; exact h
theorem QG.un {e : Expr} {t : TG} (h : QG X e t) : PG X e t := by unfold QG at h; exact h
theorem QG.mk {e : Expr} {t : TG} (h : PG X e t) : QG X e t := by unfold QG; exact h
theorem QGs.un {es : List Expr} {t : TGs} (h : QGs X es t) : PGs X es t := by unfold QGs at h; exact h
theorem QGs.mk {es : List Expr} {t : TGs} (h : PGs X es t) : QGs X es t := by unfold QGs; exact h
theorem QI.un {tg e : Expr} {t : TI} (h : QI X tg e t) : PI X tg e t := by unfold QI at h; exact h
theorem QI.mk {tg e : Expr} {t : TI} (h : PI X tg e t) : QI X tg e t := by unfold QI; exact h
theorem QO.un {e : Option Expr} {t : TO} (h : QO X e t) : PO X e t := by unfold QO at h; exact h
theorem QO.mk {e : Option Expr} {t : TO} (h : PO X e t) : QO X e t := by unfold QO; exact h
theorem QTs.un {es : List Expr} {t : TT} (h : QTs X es t) : PTs X es t := by unfold QTs at h; exact h
theorem QTs.mk {es : List Expr} {t : TT} (h : PTs X es t) : QTs X es t := by unfold QTs; exact h
theorem ROp.un {f : Value → Value → Sem Value} {r : R2} (h : ROp X f r) : OpR X f r := by unfold ROp at h; exact h
theorem ROp.mk {f : Value → Value → Sem Value} {r : R2} (h : OpR X f r) : ROp X f r := by unfold ROp; exact h
theorem RUn.un {f : Value → Sem Value} {r : V → Hp → VK → Prop} (h : RUn X f r) : UnR X f r := by unfold RUn at h; exact h
theorem RUn.mk {f : Value → Sem Value} {r : V → Hp → VK → Prop} (h : UnR X f r) : RUn X f r := by unfold RUn; exact h
theorem RCall.un {f : Value} {r : List V → Hp → VK → Prop} (h : RCall X f r) : CallR X f r := by unfold RCall at h; exact h
theorem RCall.mk {f : Value} {r : List V → Hp → VK → Prop} (h : CallR X f r) : RCall X f r := by unfold RCall; exact h
theorem RIx.un {r : R2} (h : RIx X r) : IxR X r := by unfold RIx at h; exact h
theorem RIx.mk {r : R2} (h : IxR X r) : RIx X r := by unfold RIx; exact h
theorem RMt.un {id : String} {r : V → List V → Hp → VK → Prop} (h : RMt X id r) : MtR X id r := by unfold RMt at h; exact h
theorem RMt.mk {id : String} {r : V → List V → Hp → VK → Prop} (h : MtR X id r) : RMt X id r := by unfold RMt; exact h
theorem RSl.un {r : V → Option Int → Option Int → Hp → VK → Prop} (h : RSl X r) : SlR X r := by unfold RSl at h; exact h
theorem RSl.mk {r : V → Option Int → Option Int → Hp → VK → Prop} (h : SlR X r) : RSl X r := by unfold RSl; exact h
theorem RSet.un {r : TSet} (h : RSet X r) : PSet X r := by unfold RSet at h; exact h
theorem RSet.mk {r : TSet} (h : PSet X r) : RSet X r := by unfold RSet; exact h
theorem RIp.un {op : Operator} {r : TIp} (h : RIp X op r) : PIp X op r := by unfold RIp at h; exact h
theorem RIp.mk {op : Operator} {r : TIp} (h : PIp X op r) : RIp X op r := by unfold RIp; exact h
end
section
variable {X : Cx} {a b c e o l : Expr} {es rest : List Expr} {ta tb tc te to tl : TE} {t : TA} {pos : Pos} {tA tB' : TT}
/-! ### operations -/
theorem rAdd : ROp X (binaryOp .Add) rAddG := .mk op_addG
theorem rSub : ROp X (binaryOp .Sub) (rI0 fun i j => .int (i - j)) := .mk op_sub
theorem rMul : ROp X (binaryOp .Mult) (rI CMul fun i j => .int (i * j)) := .mk op_mul
theorem rDiv : ROp X (binaryOp .FloorDiv) (rI CDiv fun i j => .int (i / j)) := .mk op_fdiv
theorem rMod : ROp X (binaryOp .Mod) (rI (fun _ j => 0 < j) fun i j => .int (i % j)) := .mk op_mod
theorem rPow : ROp X (binaryOp .Pow) (rI CPow fun i j => .int (i ^ j.toNat)) := .mk op_pow
theorem rNeg : RUn X (unaryOp .USub) (rU fun i => .int (-i)) := .mk un_neg
theorem rLt : ROp X (compareOp .Lt) (rI0 fun i j => .bl (decide (i < j))) := .mk op_lt
theorem rLe : ROp X (compareOp .LtE) (rI0 fun i j => .bl (decide (i ≤ j))) := .mk op_le
theorem rGt : ROp X (compareOp .Gt) (rI0 fun i j => .bl (decide (j < i))) := .mk op_gt
theorem rGe : ROp X (compareOp .GtE) (rI0 fun i j => .bl (decide (j ≤ i))) := .mk op_ge
theorem rEqq {k : Nat} {A : Around} (hr : Room k A) (hA : X.A = A := by rfl) : ROp X (compareOp .Eq) (rEqG 150) := .mk (op_eqG (by rw [hA]; exact hu_n hr))
theorem rNeq {k : Nat} {A : Around} (hr : Room k A) (hA : X.A = A := by rfl) : ROp X (compareOp .NotEq) (rNeG 150) := .mk (op_neG (by rw [hA]; exact hu_n hr))
theorem rIs : ROp X (compareOp .Is) (fun x y H Q => y = .non ∧ Q (.bl (decide (x = .non))) H) := .mk op_isN
theorem rIsNot : ROp X (compareOp .IsNot) (fun x y H Q => y = .non ∧ Q (.bl (!decide (x = .non))) H) := .mk op_notN
theorem rInn (K : PySem.W.Frag) (hK : X.K = K := by rfl) : ROp X (compareOp .In) (rIn K false) := .mk (kIn K hK)
theorem rNotInn (K : PySem.W.Frag) (hK : X.K = K := by rfl) : ROp X (compareOp .NotIn) (rIn K true) := .mk (kNotIn K hK)
theorem xIx (K : PySem.W.Frag) (hK : X.K = K := by rfl) : RIx X (rIxG K) := .mk (kIx K hK)
theorem xSl (K : PySem.W.Frag) (hK : X.K = K := by rfl) : RSl X (rSlN K) := .mk (kSl K hK)
theorem xSet : RSet X rSetL := .mk set_list
theorem fLen (K : PySem.W.Frag) (hK : X.K = K := by rfl) : RCall X (.builtin "len") (rLen K) := .mk (kLen K hK)
def rAbs : List V → Hp → VK → Prop := fun xs H Q => ∃ i, xs = [.int i] ∧ Q (.int (if i < 0 then -i else i)) H
theorem fAbs : RCall X (.builtin "abs") rAbs := .mk call_abs
theorem fIsi (K : PySem.W.Frag) (hK : X.K = K := by rfl) : RCall X (.builtin "isinstance") (rIsi K) := .mk (kIsi K hK)
theorem fList (K : PySem.W.Frag) (hK : X.K = K := by rfl) : RCall X (.type "list") (rListN K) := .mk (kListC K hK)
theorem fTuple (K : PySem.W.Frag) (hK : X.K = K := by rfl) : RCall X (.type "tuple") (rTupleN K) := .mk (kTupleC K hK)
def rListRng : List V → Hp → VK → Prop := fun xs H Q => ∃ r lo hi, xs = [.ref r] ∧ H r = some (.rng lo hi) ∧ (-(2 ^ 62) ≤ lo ∧ lo < 2 ^ 62 ∧ -(2 ^ 62) ≤ hi ∧ hi < 2 ^ 62 ∧ hi - lo ≤ 2 ^ 24) ∧ New H (.lst (rangeVs lo hi)) Q
theorem fListRng (hc : X.calm = true := by rfl) : RCall X (.type "list") rListRng := .mk (call_list_rng hc)
def rStrInt : List V → Hp → VK → Prop := fun xs H Q => ∃ i, xs = [.int i] ∧ i.natAbs.log2 < 1920 ∧ Q (.str (toString i)) H
theorem fStr : RCall X (.type "str") rStrInt := .mk call_str_int
def rInt1 : List V → Hp → VK → Prop := fun xs H Q => (∃ i, xs = [.int i] ∧ Q (.int i) H) ∨ ∃ k, xs = [.bl k] ∧ Q (.int (if k then 1 else 0)) H
theorem fInt : RCall X (.type "int") rInt1 := .mk call_int1
theorem mAppend : RMt X "list.append" rAppend := .mk mt_append
theorem mInsert : RMt X "list.insert" rInsert := .mk mt_insert
theorem mExtend : RMt X "list.extend" rExtend := .mk mt_extend
theorem mPop : RMt X "list.pop" rPop := .mk mt_pop
theorem mReverse : RMt X "list.reverse" rReverse := .mk mt_reverse
theorem mClear : RMt X "list.clear" rClear := .mk mt_clear
theorem iAdd : RIp X .Add (ipI fun i j => i + j) := .mk ip_add
theorem iSub : RIp X .Sub (ipI fun i j => i - j) := .mk ip_sub
/-! ### expressions -/
theorem qv (i : Nat) {x : Str} {pos : Pos} (hN : X.N[i]? = some x := by rfl) (hv : Vis X.env.scope x := by first | exact Or.inl rfl | exact Or.inr (Or.inl rfl) | exact Or.inr (Or.inr rfl)) (hd : (x == ("__debug__" : Str)) = false := by decide)
    (hcd : (x == ("__classdict__" : Str)) = false := by decide) : QE X (.Name x pos) (tVar i) := .mk (pe_var hN hv hd hcd)
theorem qint {i j pos} : QE X (.Constant (.int i) j pos) (tC (.int i)) := .mk pe_int
theorem qbl {b j pos} : QE X (.Constant (.bool b) j pos) (tC (.bl b)) := .mk pe_bl
theorem qnon {j pos} : QE X (.Constant .none j pos) (tC .non) := .mk pe_non
theorem qstr {x j pos} : QE X (.Constant (.str x) j pos) (tC (.str x)) := .mk pe_str
theorem qty {x : Str} {T : String} {pos : Pos} (hg : Gl X x) (hm : X.mg x = none) (hv : bootBuiltins x = some (.type T)) (hn : x ≠ "__name__" := by decide) (hd : (x == ("__debug__" : Str)) = false := by decide) : QE X (.Name x pos) (tC (.ty T)) := .mk (pe_bltn hg hm hv rfl hn hd)
theorem qglobI {x : Str} {i : Int} {pos : Pos} (hg : Gl X x) (hm : ∃ tk, X.mg x = some (.int i tk)) (hd : (x == ("__debug__" : Str)) = false := by decide) : QE X (.Name x pos) (tC (.int i)) := by
  obtain ⟨tk, h⟩ := hm
  exact .mk (pe_glob hg h ⟨tk, rfl⟩ hd)
theorem qop {op : Operator} {r : R2} (ho : ROp X (binaryOp op) r) (ha : QE X a ta) (hb : QE X b tb) : QE X (.BinOp a op b pos) (tOp r ta tb) := .mk (pe_op ho.un ha.un hb.un)
theorem qun {op : UnaryOp} {r : V → Hp → VK → Prop} (ho : RUn X (unaryOp op) r) (ha : QE X a ta) : QE X (.UnaryOp op a pos) (tUn r ta) := .mk (pe_un ho.un ha.un)
theorem qcmp {op : CmpOp} {r : R2} (ho : ROp X (compareOp op) r) (ha : QE X a ta) (hb : QE X b tb) (hm : behindInMarks op b = false) : QE X (.Compare a [op] [b] pos) (tOp r ta tb) := .mk (pe_cmpR ho.un ha.un hb.un hm)
theorem qchain {op op' : CmpOp} {r r' : R2} (ho : ROp X (compareOp op) r) (ho' : ROp X (compareOp op') r') (ha : QE X a ta) (hb : QE X b tb) (hc : QE X c tc)
    (hm : lastMarks [op, op'] [b, c] = false := by with_unfolding_all rfl) : QE X (.Compare a [op, op'] [b, c] pos) (tChain r r' ta tb tc) := .mk (pe_chain ho.un ho'.un ha.un hb.un hc.un hm)
theorem qand (K : PySem.W.Frag) (ha : QE X a ta) (hb : QE X (.BoolOp .And (b :: rest) pos) tb) (hK : X.K = K := by rfl) : QE X (.BoolOp .And (a :: b :: rest) pos) (tAndG K ta tb) := .mk (kAnd K ha.un hb.un hK)
theorem qor (K : PySem.W.Frag) (ha : QE X a ta) (hb : QE X (.BoolOp .Or (b :: rest) pos) tb) (hK : X.K = K := by rfl) : QE X (.BoolOp .Or (a :: b :: rest) pos) (tOrG K ta tb) := .mk (kOr K ha.un hb.un hK)
theorem qone {op} (h : QE X a te) : QE X (.BoolOp op [a] pos) te := .mk (pe_one h.un)
theorem qnot (K : PySem.W.Frag) (ha : QE X a ta) (hK : X.K = K := by rfl) : QE X (.UnaryOp .Not a pos) (tNotG K ta) := .mk (kNot K ha.un hK)
theorem qif (hc : QT X c tA) (ha : QE X a ta) (hb : QE X b tb) : QE X (.IfExp c a b pos) (tIf tA ta tb) := .mk (pe_ifExp hc.un ha.un hb.un)
theorem qnil : QA X [] tNil := .mk pa_nil
theorem qcons (ha : QE X e te) (hr : QA X es t) (h : notStar e = true := by rfl) : QA X (e :: es) (tCons te t) := .mk (paC ha.un hr.un h)
theorem qtup {x1} (h : QA X es t) : QE X (.Tuple es x1 pos) (tTupN t) := .mk (pe_tupN h.un)
theorem qlst (h : QA X es t) : QE X (.List es pos) (tLstN t) := .mk (pe_lstN h.un)
theorem qdict : QE X (.Dict [] [] pos) tDictN := .mk pe_dictN
theorem qix {r : R2} (hr : RIx X r) (ha : QE X a ta) (hb : QE X b tb) (hs : PlainIx b) : QE X (.Subscript a b pos) (tOp r ta tb) := .mk (pe_ix hr.un ha.un hb.un hs)
theorem qslice {r : V → Option Int → Option Int → Hp → VK → Prop} {lo hi : Option Expr} {t1 t2 : TO} {p2 : Pos} (hr : RSl X r) (he : QE X e te) (hl : QO X lo t1) (hu : QO X hi t2) : QE X (.Subscript e (.Slice lo hi none p2) pos) (tSl r te t1 t2) := .mk (pe_slice hr.un he.un hl.un hu.un)
theorem qrev {k : Expr} {tk : TO} {p2 : Pos} (K : PySem.W.Frag) (he : QE X e te) (hk : QO X (some k) tk) (hK : X.K = K := by rfl) : QE X (.Subscript e (.Slice none none (some k) p2) pos) (tRev K te tk) := .mk (kRev K he.un hk.un hK)
theorem onone : QO X none tNoPart := .mk po_none
theorem osome (h : QE X e te) : QO X (some e) (tPart te) := .mk (po_some h.un)
theorem qdget {td ty : TE} {i : Expr} {k : Nat} {A : Around} (hr : Room k A) (ho : QE X o td) (hi : QE X i ty) (hs : NoSl i) (hA : X.A = A := by rfl) : QE X (.Subscript o i pos) (tDGet td ty) := .mk (pe_dget (by rw [hA]; exact hu_of hr) ho.un hi.un hs)
theorem qF {CX : CXT} {k : Nat} {x : Str} {sp : Sp} {E : XK} {p pos : Pos} (C : Cal X.prog X.w X.K X.mg X.base CX k x sp) (hr : Room k X.A) (hx : Passes CX X E) (hg : Gl X x)
    (ha : QA X (e :: es) t) (hdb : (x == ("__debug__" : Str)) = false := by decide) (h : (e :: es).all notStar = true := by rfl) : QE X (.Call (.Name x p) (e :: es) [] pos) (tCallF sp E t) := .mk (cF C hr hx hg ha.un hdb h)
theorem qB {id : String} {r : List V → Hp → VK → Prop} {x : Str} {p pos : Pos} (hc : RCall X (.builtin id) r) (hg : Gl X x) (hm : X.mg x = none) (hv : bootBuiltins x = some (.builtin id)) (ha : QA X (e :: es) t) (hn : x ≠ "__name__" := by decide) (hdb : (x == ("__debug__" : Str)) = false := by decide)
    (h : (e :: es).all notStar = true := by rfl) : QE X (.Call (.Name x p) (e :: es) [] pos) (tCB r t) := .mk (cB hc.un hg hm hv ha.un hn hdb h)
theorem qTy {T : String} {r : List V → Hp → VK → Prop} {x : Str} {p pos : Pos} (hc : RCall X (.type T) r) (hg : Gl X x) (hm : X.mg x = none) (hv : bootBuiltins x = some (.type T)) (ha : QA X (e :: es) t) (hn : x ≠ "__name__" := by decide) (hdb : (x == ("__debug__" : Str)) = false := by decide)
    (h : (e :: es).all notStar = true := by rfl) : QE X (.Call (.Name x p) (e :: es) [] pos) (tCB r t) := .mk (cTy hc.un hg hm hv ha.un hn hdb h)
theorem qRange1 {ta : TA} {p pos : Pos} (hg : Gl X "range") (hm : X.mg "range" = none) (ha : QA X [a] ta) (h : notStar a = true := by rfl) : QE X (.Call (.Name "range" p) [a] [] pos) (tRng1 ta) := .mk (cRange1 hg hm ha.un h)
theorem qBm {name : Str} {apos cpos : Pos} {T id : String} {r : V → List V → Hp → VK → Prop} (K : PySem.W.Frag) (pa : PlainAttrs T) (slot : Slot T name id) (hty : typeOf (.builtin id) = pure (.type "method_descriptor")) (hm : RMt X id r) (ho : QE X o to) (ha : QA X (e :: es) t)
    (hbase : attributeBase o name X.env (eval o X.env) = eval o X.env := by rfl) (h : (e :: es).all notStar = true := by rfl) (hl : decide ((e :: es).length < 30) = true := by rfl)
    (hline : (apos.endLine == cpos.line) = true := by rfl) (hK : X.K = K := by rfl) : QE X (.Call (.Attribute o name apos) (e :: es) [] cpos) (tBM K T r to t) := .mk (kBm K pa slot hty hm.un ho.un ha.un hbase h hl hline hK)
theorem qBm0 {name : Str} {apos cpos : Pos} {T id : String} {r : V → List V → Hp → VK → Prop} (K : PySem.W.Frag) (pa : PlainAttrs T) (slot : Slot T name id) (hty : typeOf (.builtin id) = pure (.type "method_descriptor")) (hm : RMt X id r) (ho : QE X o to)
    (hbase : attributeBase o name X.env (eval o X.env) = eval o X.env := by rfl) (hline : (apos.endLine == cpos.line) = true := by rfl) (hK : X.K = K := by rfl) : QE X (.Call (.Attribute o name apos) [] [] cpos) (tBM0 K T r to) := .mk (kBm0 K pa slot hty hm.un ho.un hbase hline hK)
/-! ### tests -/
theorem tcmp {op : CmpOp} {r : R2} (ho : ROp X (compareOp op) r) (ha : QE X a ta) (hb : QE X b tb) (hm : behindInMarks op b = false) : QT X (.Compare a [op] [b] pos) (tTest (tOp r ta tb)) := .mk (pt_cmpR ho.un ha.un hb.un hm)
theorem tchain {op op' : CmpOp} {r r' : R2} (ho : ROp X (compareOp op) r) (ho' : ROp X (compareOp op') r') (ha : QE X a ta) (hb : QE X b tb) (hc : QE X c tc)
    (hm : lastMarks [op, op'] [b, c] = false := by with_unfolding_all rfl) : QT X (.Compare a [op, op'] [b, c] pos) (tTest (tChain r r' ta tb tc)) := .mk (pt_chain ho.un ho'.un ha.un hb.un hc.un hm)
theorem ttru (K : PySem.W.Frag) (ha : QE X a ta) (he : ∀ whole, isTrue a X.env whole = (do let v ← whole; standAt a.pos; holding [v] (truthy v))) (hK : X.K = K := by rfl) : QT X a (tTru K ta) := .mk (kTru K ha.un he hK)
theorem tnot (ha : QT X a tA) : QT X (.UnaryOp .Not a pos) (tNot tA) := .mk (pt_not ha.un)
theorem wand1 (ha : QT X a tA) : QW X (.BoolOp .And [a] pos) tA := .mk (pw_and1 ha.un)
theorem wor1 (ha : QT X a tA) : QW X (.BoolOp .Or [a] pos) tA := .mk (pw_or1 ha.un)
theorem wand (ha : QT X a tA) (hb : QW X (.BoolOp .And (b :: rest) pos) tB') : QW X (.BoolOp .And (a :: b :: rest) pos) (tAnd tA tB') := .mk (pw_and ha.un hb.un)
theorem wor (ha : QT X a tA) (hb : QW X (.BoolOp .Or (b :: rest) pos) tB') : QW X (.BoolOp .Or (a :: b :: rest) pos) (tOr tA tB') := .mk (pw_or ha.un hb.un)
theorem QW.tst (h : QW X a tA) : QT X a tA := .mk h.un.pt
/-! ### targets, walks -/
theorem gname {i : Nat} {x : Str} (hN : X.N.Nodup) (hi : X.N[i]? = some x) (hx : Loc X.env.scope x) (hf : X.fn x = true ∨ X.env.scope.names.lookup x = some .local := by first | exact .inl rfl | exact .inr rfl | assumption) : QG X (.Name x pos) (gName i) := .mk (pg_name hN hi hx hf)
theorem gsnil : QGs X [] gNil := .mk pgs_nil
theorem gscons {t : TG} {u : TGs} (h1 : QG X e t) (h2 : QGs X es u) (hs : (assignEach (e :: es) X.env).map (·.2) = assign e X.env :: (assignEach es X.env).map (·.2) := by rfl) : QGs X (e :: es) (gCons t u) := .mk (pgs_cons h1.un h2.un hs)
theorem gtup {k : Nat} {t : TGs} {n : Nat} (K : PySem.W.Frag) (hc : X.calm = true) (h : QGs X es t) (hn : (assignEach es X.env).length = n := by rfl) (hst : (assignEach es X.env).findIdx? (·.1) = none := by rfl) (hK : X.K = K := by rfl) : QG X (.Tuple es k pos) (gTup K n t) := by
  subst hK; exact .mk (pg_tup hc h.un hn hst)
theorem gsub {i : Expr} {ti : TE} {t : TSet} (ho : QE X o to) (hi : QE X i ti) (hs : RSet X t) 
    (ha : ∀ v, assign (.Subscript o i pos) X.env v = (do
      let ov ← holding [v] (eval o X.env)
      let iv ← holding [v, ov] (eval i X.env)
      standAt pos
      holding [v, ov, iv] (setItem ov iv v)
      release [v, ov, iv] []) := by intro _; rfl) : QG X (.Subscript o i pos) (gSub to ti t) := .mk (pg_sub ho.un hi.un hs.un ha)
theorem iseq {tg : Expr} (K : PySem.W.Frag) (hl : QE X l tl) (hK : X.K = K := by rfl) : QI X tg l (iSeq K tl) := .mk (kSeq K hl.un hK)
theorem irange1 {tg : Expr} {ta : TA} {p pos : Pos} (hg : Gl X "range") (hm : X.mg "range" = none) (ha : QA X [a] ta) (h : notStar a = true := by rfl) : QI X tg (.Call (.Name "range" p) [a] [] pos) (iRng1 ta) := .mk (iRange1 hg hm ha.un h)
theorem irange2 {tg : Expr} {ta : TA} {p pos : Pos} (hg : Gl X "range") (hm : X.mg "range" = none) (ha : QA X [a, b] ta) (h : notStar a = true := by rfl) (h' : notStar b = true := by rfl) : QI X tg (.Call (.Name "range" p) [a, b] [] pos) (iRng2 ta) := .mk (iRange2 hg hm ha.un h h')
theorem csnil : QTs X [] tT0 := .mk pts_nil
theorem csone (h : QT X c tA) : QTs X [c] tA := .mk (pts_one h.un)
theorem qcomp {elt target iter : Expr} {ifs : List Expr} {scope : Scope} {pos : Pos} {wi : TI} {g : TG} {tt : TT} {te : TE} {sc : Scope} {NX : List Str} (N' : List Str) (cs : List (Option Nat)) (hc : X.calm = true)
    (hi : QI X target iter wi) (hg : ∀ fp s3 H3, QG (cxC X N' scope fp s3 H3) target g) (ht : ∀ fp s3 H3, QTs (cxC X N' scope fp s3 H3) ifs tt) (he : ∀ fp s3 H3, QE (cxC X N' scope fp s3 H3) elt te)
    (hsc : X.env.scope = sc) (hN : X.N = NX) (hcs : csOk sc NX N' cs scope = true) (hs : ∀ x, foldedSetIterable iter X.env x = pure x := by intro _; rfl) :
    QE X (.ListComp elt [⟨target, iter, ifs, 0⟩] scope pos) (tComp cs wi g tt te) :=
  .mk (pe_comp N' cs hc hi.un (fun fp s3 H3 => (hg fp s3 H3).un) (fun fp s3 H3 => (ht fp s3 H3).un) (fun fp s3 H3 => (he fp s3 H3).un) hsc hN hcs hs)
/-! ### statements -/
variable {st : Stmt} {sts : List Stmt} {t1 t2 : TS}
theorem bnil : QSs X [] tNext := .mk pss_nil
theorem bcons (h1 : QS X st t1) (h2 : QSs X sts t2) : QSs X (st :: sts) (tSeq t1 t2) := .mk (pss_cons h1.un h2.un)
theorem bone (h1 : QS X st t1) : QSs X [st] t1 := .mk (pss_one h1.un)
theorem spass : QS X (.Pass pos) tNext := .mk ps_pass
theorem sbreak : QS X (.Break pos) tBreak := .mk ps_break
theorem scontinue : QS X (.Continue pos) tCont := .mk ps_continue
theorem sexpr (he : QE X e te) (hs : swapsWith e none pos.line X.env = pure false := by rfl) : QS X (.Expr e pos) (tDrop te) := .mk (ps_expr he.un hs)
theorem sret (he : QE X e te) : QS X (.Return (some e) pos) (tRet te) := .mk (ps_ret he.un)
theorem sretN : QS X (.Return none pos) tRetN := .mk ps_retN
theorem sif {c : Expr} {a b : List Stmt} {tc : TT} (hc : QT X c tc) (ha : QSs X a t1) (hb : QSs X b t2) : QS X (.If c a b pos) (tIfS tc t1 t2) := .mk (ps_if hc.un ha.un hb.un)
theorem sset {i : Nat} {x : Str} {pos' : Pos} (hN : X.N.Nodup) (hi : X.N[i]? = some x) (hx : Loc X.env.scope x) (he : QE X e te) (hs : swapsWith e (some (.Name x pos')) pos.line X.env = pure false := by rfl) (hf : X.fn x = true ∨ X.env.scope.names.lookup x = some .local := by first | exact .inl rfl | exact .inr rfl | assumption) :
    QS X (.Assign [.Name x pos'] e pos) (tAsg te (gName i)) := .mk (ps_set hN hi hx he.un hs hf)
theorem ssetC {i : Nat} {y : Str} {py spos : Pos} {elt target iter : Expr} {ifs : List Expr} {scope : Scope} {pos : Pos} {wi : TI} {g : TG} {tt : TT} {te : TE} {sc : Scope} {NX : List Str} (N' : List Str) (cs : List (Option Nat)) (hc : X.calm = true)
    (hND : X.N.Nodup) (hiN : X.N[i]? = some y) (hy : X.env.scope.names.lookup y = some .local)
    (hi : QI X target iter wi) (hg : ∀ fp s3 H3, QG (cxC X N' scope fp s3 H3) target g) (ht : ∀ fp s3 H3, QTs (cxC X N' scope fp s3 H3) ifs tt) (he : ∀ fp s3 H3, QE (cxC X N' scope fp s3 H3) elt te)
    (hsc : X.env.scope = sc) (hN : X.N = NX) (hcs : csOk sc NX N' cs scope = true)
    (hsw : swapsWith (.ListComp elt [⟨target, iter, ifs, 0⟩] scope pos) (some (.Name y py)) spos.line X.env = pure true)
    (hs : ∀ x, foldedSetIterable iter X.env x = pure x := by intro _; rfl) :
    QS X (.Assign [.Name y py] (.ListComp elt [⟨target, iter, ifs, 0⟩] scope pos) spos) (tAsg (tComp cs wi g tt te) (gName i)) :=
  .mk (ps_setC N' cs hc hND hiN hy hi.un (fun fp s3 H3 => (hg fp s3 H3).un) (fun fp s3 H3 => (ht fp s3 H3).un) (fun fp s3 H3 => (he fp s3 H3).un) hsc hN hcs hsw hs)
theorem sasg {tg : Expr} {g : TG} (he : QE X e te) (hg : QG X tg g) (hs : swapsWithSole [tg] e pos.line X.env = pure false := by rfl) (hw : swappedStores [tg] e X.env = pure none := by rfl)
    (h1 : (assignEach [tg] X.env).map (·.2) = [assign tg X.env] := by rfl) : QS X (.Assign [tg] e pos) (tAsg te g) := .mk (ps_asg he.un hg.un hs hw h1)
theorem saug {i : Nat} {x : Str} {op : Operator} {ti : TIp} {pos' : Pos} (hN : X.N.Nodup) (hi : X.N[i]? = some x) (hx : Loc X.env.scope x) (he : QE X e te) (ho : RIp X op ti) (hf : X.fn x = true ∨ X.env.scope.names.lookup x = some .local := by first | exact .inl rfl | exact .inr rfl | assumption) :
    QS X (.AugAssign (.Name x pos') op e pos) (tAug i te ti) := .mk (ps_aug hN hi hx he.un ho.un hf)
theorem sdput {i value : Expr} {td ty tv : TE} {pos' : Pos} {k : Nat} {A : Around} (hr : Room k A) (ho : QE X o td) (hi : QE X i ty) (hv : QE X value tv) (hs : swapsWith value (some (.Subscript o i pos')) pos.line X.env = pure false) (hA : X.A = A := by rfl) :
    QS X (.Assign [.Subscript o i pos'] value pos) (sDPut td ty tv) := .mk (ps_dput (by rw [hA]; exact hu_of hr) ho.un hi.un hv.un hs)
theorem sfor {tg iter : Expr} {body : List Stmt} {wi : TI} {g : TG} {tb : TS} (hp : PassesOwn (model X.prog X.w) X.A X.env X.xe) (hc : X.calm = true) (hi : QI X tg iter wi) (hg : QG X tg g) (hb : QSs X body tb)
    (hs : ∀ x, foldedSetIterable iter X.env x = pure x := by intro _; rfl) : QS X (.For tg iter body [] pos) (tFor wi g tb) := .mk (ps_for hp hc hi.un hg.un hb.un hs)
theorem swhile {c : Expr} {body : List Stmt} {tc : TT} {tb : TS} (hp : PassesOwn (model X.prog X.w) X.A X.env X.xe) (hc : QT X c tc) (hb : QSs X body tb) : QS X (.While c body [] pos) (tWhile tc tb) := .mk (ps_while hp hc.un hb.un)
end
/-- a body in two parts, joined by a word M -/
theorem split {X : Cx} {body : List Stmt} {D : Ends} {σ : St} {H : Hp} (n : Nat) (M : St → Hp → Prop) (h2 : ∃ t, QSs X (body.drop n) t ∧ ∀ σ' H', M σ' H' → t D σ' H')
    (h1 : ∀ u, QSs X (body.drop n) u → (∀ σ' H', M σ' H' → u D σ' H') → ∃ t, QSs X body t ∧ t D σ H) : ∃ t, QSs X body t ∧ t D σ H := by
  obtain ⟨t, p, q⟩ := h2
  exact h1 t p q
theorem Fd.cal {P : Program} {w : World} {K : PySem.W.Frag} {mg : Str → Option Value} {base : Heap} {x : Str} {st : Stmt} {f : Addr} {N ps : List Str} {k : Nat} {sp : Sp} (F : Fd K mg x st f) (S : FnScope N ps (defScope st))
    (hb : ∀ (kV doc pm : Value) (an : Option Addr) (cdv ct : Value) (us : List Value), us.length = ps.length → bindArgs (PySem.W.fnOf x x (defArgs st) (defBody st) (defScope st) .none kV doc pm an cdv ct) ⟨us, []⟩ = pure (ps.zip us))
    (len : ∀ vs H Q E, sp vs H Q E → vs.length = ps.length)
    (hbody : ∀ (cdv : Value) (A : Around) (outer : List Env) (s : Shared) (H : Hp) (vs : List V) (Q : VK) (E : XK), Room k (A.deeper (envOfC x (defScope st) s.heap.objs.size f cdv)) → sp vs H Q E →
      ∃ t, QSs (cxOf CX0 P w K mg base N x (defScope st) f cdv A outer s H E).nox (defBody st) t ∧ t { nx := fun _ H' => Q .non H', rt := Q } (start N vs) H) : Cal P w K mg base CX0 (k + 1) x sp := by
  obtain ⟨⟨fd, F1⟩, F2⟩ := F
  refine ⟨f, fd, ps, F1.ok S len (fun cdv A outer s H vs Q E hr h => ?_), F2, F1.kp, F1.binds hb⟩
  obtain ⟨t, p, q⟩ := hbody cdv A outer s H vs Q E hr h
  exact ⟨t, p.un, q⟩
end L3

namespace L3
open PySem L2
/-! ### isinstance of data -/
def D.ty : D → String
  | .non => "NoneType"
  | .bl _ => "bool"
  | .int _ => "int"
  | .str _ => "str"
  | .tup _ => "tuple"
  | .lst _ => "list"
  | .emp => "dict"
theorem Rep.ty {K : PySem.W.Frag} {H : Hp} {v : V} {e : D} (h : Rep H v e) : TyOf K H v (.type e.ty) := by
  cases h with
  | non => exact .non
  | bl b => exact .bl b
  | int i => exact .int i
  | str x => exact .str x
  | tup e _ => exact .tup e
  | lst e _ => exact .lst e
  | emp e => exact .dK e
def D.isTup : D → Bool
  | .tup _ => true
  | _ => false
def D.isLst : D → Bool
  | .lst _ => true
  | _ => false
def D.isBl : D → Bool
  | .bl _ => true
  | _ => false
def D.isStr : D → Bool
  | .str _ => true
  | _ => false
/-- an int or a bool -/
def D.isNum : D → Bool
  | .int _ => true
  | .bl _ => true
  | _ => false
theorem kit_tuple (K : PySem.W.Frag) : ∀ e : D, PySem.W.kitOne K (.type e.ty) (.type "tuple") = some e.isTup
  | .non => by kernel_rfl
  | .bl _ => by kernel_rfl
  | .int _ => by kernel_rfl
  | .str _ => by kernel_rfl
  | .tup _ => by kernel_rfl
  | .lst _ => by kernel_rfl
  | .emp => by kernel_rfl
theorem kit_list (K : PySem.W.Frag) : ∀ e : D, PySem.W.kitOne K (.type e.ty) (.type "list") = some e.isLst
  | .non => by kernel_rfl
  | .bl _ => by kernel_rfl
  | .int _ => by kernel_rfl
  | .str _ => by kernel_rfl
  | .tup _ => by kernel_rfl
  | .lst _ => by kernel_rfl
  | .emp => by kernel_rfl
theorem kit_int (K : PySem.W.Frag) : ∀ e : D, PySem.W.kitOne K (.type e.ty) (.type "int") = some e.isNum
  | .non => by kernel_rfl
  | .bl _ => by kernel_rfl
  | .int _ => by kernel_rfl
  | .str _ => by kernel_rfl
  | .tup _ => by kernel_rfl
  | .lst _ => by kernel_rfl
  | .emp => by kernel_rfl
theorem kit_bool (K : PySem.W.Frag) : ∀ e : D, PySem.W.kitOne K (.type e.ty) (.type "bool") = some e.isBl
  | .non => by kernel_rfl
  | .bl _ => by kernel_rfl
  | .int _ => by kernel_rfl
  | .str _ => by kernel_rfl
  | .tup _ => by kernel_rfl
  | .lst _ => by kernel_rfl
  | .emp => by kernel_rfl
theorem kit_str (K : PySem.W.Frag) : ∀ e : D, PySem.W.kitOne K (.type e.ty) (.type "str") = some e.isStr
  | .non => by kernel_rfl
  | .bl _ => by kernel_rfl
  | .int _ => by kernel_rfl
  | .str _ => by kernel_rfl
  | .tup _ => by kernel_rfl
  | .lst _ => by kernel_rfl
  | .emp => by kernel_rfl
end L3
namespace L3
open PySem L2
/-- a block and the word that it wants ahead -/
def Blk (X : Cx) (body : List Stmt) (D : Ends) (M : St → Hp → Prop) : Prop := ∃ t, QSs X body t ∧ ∀ σ H, M σ H → t D σ H
theorem Blk.split {X : Cx} {body : List Stmt} {D : Ends} {M : St → Hp → Prop} (n : Nat) (M2 : St → Hp → Prop) (h2 : Blk X (body.drop n) D M2)
    (h1 : ∀ u, QSs X (body.drop n) u → (∀ σ H, M2 σ H → u D σ H) → Blk X body D M) : Blk X body D M := by
  obtain ⟨t, p, q⟩ := h2
  exact h1 t p q
theorem Blk.run {X : Cx} {body : List Stmt} {D : Ends} {M : St → Hp → Prop} {σ : St} {H : Hp} (b : Blk X body D M) (h : M σ H) : ∃ t, QSs X body t ∧ t D σ H := by
  obtain ⟨t, p, q⟩ := b
  exact ⟨t, p, q σ H h⟩
end L3
namespace L3
open PySem L2 PyProof.Rows
theorem okQ {P : Program} {w : World} {K : PySem.W.Frag} {mg : Str → Option Value} {base : Heap} {x : Str} {st : Stmt} {f : Addr} {fd : FuncData} {N ps : List Str} {k : Nat} {sp : Sp} (F : Fun K x x st f fd) (S : FnScope N ps (defScope st))
    (len : ∀ vs H Q E, sp vs H Q E → vs.length = ps.length)
    (hbody : ∀ (cdv : Value) (A : Around) (outer : List Env) (s : Shared) (H : Hp) (vs : List V) (Q : VK) (E : XK), Room k (A.deeper (envOfC x (defScope st) s.heap.objs.size f cdv)) → sp vs H Q E →
      ∃ t, QSs (cxOf CX0 P w K mg base N x (defScope st) f cdv A outer s H E).nox (defBody st) t ∧ t { nx := fun _ H' => Q .non H', rt := Q } (start N vs) H) : FnOk P w K mg base CX0 (k + 1) f fd ps sp := by
  refine F.ok S len (fun cdv A outer s H vs Q E hr h => ?_)
  obtain ⟨t, p, q⟩ := hbody cdv A outer s H vs Q E hr h
  exact ⟨t, p.un, q⟩
end L3

namespace L3
open PySem PySem.Spec PyProof.Rows L2
section
variable {X : Cx}
/-! ### // by a positive divisor of any usual size -/
def CDivB (i j : Int) : Prop := 0 < j ∧ j < 2 ^ 1000
theorem op_fdivB : OpR X (binaryOp .FloorDiv) (rI CDivB fun i j => .int (i / j)) := opI fun i j _ _ _ _ _ hc q => by
  refine floordiv_int (by have := hc.1; omega) (by rw [Int.fdiv_eq_ediv_of_nonneg _ (Int.le_of_lt hc.1)]; exact q) (.inl (PyProof.noPylong_of_log2 ?_))
  by_cases h0 : j.natAbs = 0
  · rw [h0]; decide +kernel
  · have : j.natAbs < 2 ^ 1000 := by have := hc.1; have := hc.2; omega
    exact Nat.lt_trans ((Nat.log2_lt h0).mpr this) (by decide)
theorem rDivB : ROp X (binaryOp .FloorDiv) (rI CDivB fun i j => .int (i / j)) := .mk op_fdivB
/-! ### max, sum, all of a list -/
def rMaxL (K : PySem.W.Frag) : List V → Hp → VK → Prop := fun xs H Q => ∃ (p : Addr) (ns : List Int), xs = [.ref p] ∧ SqL K H p (ns.map V.int) ∧ 0 < ns.length ∧ ∀ M, M ∈ ns → (∀ a ∈ ns, a ≤ M) → Q (.int M) H
theorem call_maxL (hc : X.calm = true) : CallR X (.builtin "max") (rMaxL X.K) := by
  intro pins s σ H xs us Q I rv h
  obtain ⟨p, ns, rfl, hp, hne, q⟩ := h
  obtain ⟨u, rfl, ru⟩ := vals1 rv
  cases ru
  obtain ⟨its, r, pl, hz⟩ := I.list hp
  have hi := intsAre_of r
  obtain ⟨ys, e⟩ := hi.allInts.items
  have hns : ns = ys.toList.map (·.1) := by rw [← hi.numsOf, ← nums_intItems, ← e]
  have hsz : 0 < ys.size := by
    have h3 := hne; rw [hns, List.length_map, Array.length_toList] at h3; exact h3
  have hl := pl.isList
  rw [e] at hl
  refine max_intList (I.ok.hd hc) hl hsz fun v h' tk hv hk => ?_
  obtain ⟨t, rfl⟩ := intItems_at hv
  obtain ⟨h1, h2⟩ := argBest_gt (numAt ys) (ys.size - 1)
  refine ⟨.int _, H, I.kept hk, ⟨t, rfl⟩, q _ ?_ fun a ha => ?_⟩
  · rw [hns, numAt_eq]; exact getD_mem (by rw [List.length_map, Array.length_toList]; omega)
  · rw [hns] at ha
    obtain ⟨j, hj, rfl⟩ := mem_getD ha
    rw [List.length_map, Array.length_toList] at hj
    rw [← numAt_eq]; exact h2 j (by omega)
def rSumL (K : PySem.W.Frag) : List V → Hp → VK → Prop := fun xs H Q => ∃ (p : Addr) (ns : List Int), xs = [.ref p] ∧ SqL K H p (ns.map V.int) ∧ Q (.int ns.sum) H
theorem call_sumL (hc : X.calm = true) : CallR X (.builtin "sum") (rSumL X.K) := by
  intro pins s σ H xs us Q I rv h
  obtain ⟨p, ns, rfl, hp, q⟩ := h
  obtain ⟨u, rfl, ru⟩ := vals1 rv
  cases ru
  obtain ⟨its, r, pl, hz⟩ := I.list hp
  have hi := intsAre_of r
  obtain ⟨ys, e⟩ := hi.allInts.items
  have hns : ns = ys.toList.map (·.1) := by rw [← hi.numsOf, ← nums_intItems, ← e]
  have hl := pl.isList
  rw [e] at hl
  refine sum_intListG (I.ok.hd hc) hl fun h' tk t' hk => ?_
  refine ⟨.int ns.sum, H, I.kept hk, ⟨t', ?_⟩, q⟩
  rw [preSum_eq, hns, List.take_of_length_le (by rw [List.length_map, Array.length_toList]; exact Nat.le_refl _)]
def rAllB (K : PySem.W.Frag) : List V → Hp → VK → Prop := fun xs H Q => ∃ (p : Addr) (bs : List Bool), xs = [.ref p] ∧ SqL K H p (bs.map V.bl) ∧ Q (.bl (bs.all id)) H
theorem all_range : ∀ (bs : List Bool), (List.range bs.length).all (fun i => bs.getD i true) = bs.all id
  | [] => rfl
  | b :: r => by
    rw [List.length_cons, List.range_succ_eq_map, List.all_cons, List.all_map, List.all_cons]
    have := all_range r
    congr 1
theorem call_allB (hc : X.calm = true) : CallR X (.builtin "all") (rAllB X.K) := by
  intro pins s σ H xs us Q I rv h
  obtain ⟨p, bs, rfl, hp, q⟩ := h
  obtain ⟨u, rfl, ru⟩ := vals1 rv
  cases ru
  obtain ⟨its, r, pl, hz⟩ := I.list hp
  have hlen := r.length
  rw [List.length_map] at hlen
  have hlt : p < s.heap.objs.size := by obtain ⟨_, e, _⟩ := pl.isList; exact Heap.lt_size e
  refine call_all_walk (wpAny_pyIter_list pl.isList ?_)
  refine ⟨s.heap.objs.size, _, _, _, _, _, fun i => bs.getD i true, rfl, Walks.list (A := X.A.in1) (I.ok.hd hc) _ p (Nat.ne_of_lt hlt) its.toArray, ⟨⟨_, Heap.get?_push_size _ rfl, rfl, rfl⟩, pl.isList.push _⟩, ?_, fun h' tk hk => ?_⟩
  · intro i v s' Q' E' hP hQ
    have hP : its[i]? = some v := by simpa using hP
    have hi : i < its.length := (List.getElem?_eq_some_iff.mp hP).1
    have e1 : (bs.map V.bl)[i]? = some (V.bl (bs[i]'(by omega))) := by
      rw [List.getElem?_map, List.getElem?_eq_getElem (by omega)]; rfl
    obtain ⟨u, hu, ru⟩ := r.get e1
    rw [hP] at hu
    cases hu
    cases (show v = Value.bool _ from ru)
    refine wpAny_truthy_bool ?_
    have e2 : bs.getD i true = bs[i]'(by omega) := by rw [List.getD_eq_getElem?_getD, List.getElem?_eq_getElem (by omega)]; rfl
    rw [← e2]; exact hQ
  · refine ⟨.bl (bs.all id), H, ?_, ?_, q⟩
    · exact I.kept (t' := tk) fun b o e => hk b o (by simp; exact Nat.ne_of_lt (Heap.lt_size e)) (Heap.get?_push_of_some _ e)
    · show Value.bool _ = Value.bool _
      rw [List.size_toArray, ← hlen, all_range]
theorem fMax (K : PySem.W.Frag) (hc : X.calm = true := by rfl) (hK : X.K = K := by rfl) : RCall X (.builtin "max") (rMaxL K) := by subst hK; exact .mk (call_maxL hc)
theorem fSum (K : PySem.W.Frag) (hc : X.calm = true := by rfl) (hK : X.K = K := by rfl) : RCall X (.builtin "sum") (rSumL K) := by subst hK; exact .mk (call_sumL hc)
theorem fAll (K : PySem.W.Frag) (hc : X.calm = true := by rfl) (hK : X.K = K := by rfl) : RCall X (.builtin "all") (rAllB K) := by subst hK; exact .mk (call_allB hc)
def rMax2 : List V → Hp → VK → Prop := fun xs H Q => ∃ i j, xs = [.int i, .int j] ∧ Q (.int (if j > i then j else i)) H
theorem fMax2 (hc : X.calm = true := by rfl) : RCall X (.builtin "max") rMax2 := .mk (call_max2 hc)
/-! ### d.update(e) -/
def rUpdate : V → List V → Hp → VK → Prop := fun x vs H Q => ∃ d o kvs more, x = .ref d ∧ vs = [.ref o] ∧ d ≠ o ∧ H d = some (.dK kvs) ∧ H o = some (.dK more) ∧ kvs.length + more.length ≤ sizeLine ∧ Q .non (upd H d (.dK (mergeK kvs more)))
theorem length_merge : ∀ (more kvs : List (Key × V)), (mergeK kvs more).length ≤ kvs.length + more.length
  | [], kvs => by simp [mergeK]
  | p :: r, kvs => by
    have h1 := length_merge r (putK kvs p.1 p.2)
    have h2 := length_putK kvs p.1 p.2
    show (mergeK (putK kvs p.1 p.2) r).length ≤ _
    rw [List.length_cons]; omega
theorem mt_update : MtM X "dict.update" rUpdate := by
  intro pins s σ H x vs v us Q I rx rv h
  obtain ⟨d, o, kvs, more, rfl, rfl, hdo, hd, ho, hz, q⟩ := h
  cases rx
  obtain ⟨u, rfl, ru⟩ := rv.one
  cases ru
  obtain ⟨z1, hs1, vs1, rel1, dd1⟩ := dk_of I.hok hd
  obtain ⟨z2, hs2, vs2, rel2, dd2⟩ := dk_of I.hok ho
  refine call_meetsIn PySem.F.slot_dict_update dd1.typeIs PySem.F.entry_dict_update (PySem.F.args_dict_update_2 _ _) (meets_dict_update (mixKind X.prog X.w) d o hdo hs2)
    ⟨vs1, vs2, dd1, dd2, by rw [← rel1.length, ← rel2.length]; exact hz, fun h' dd' _ hs => ?_⟩
  have hl : (mergeK kvs more).length ≤ sizeLine := Nat.le_trans (length_merge more kvs) hz
  have he : ∃ q, h'.get? d = some q := let ⟨q, _, _, hq, _⟩ := dd'; ⟨q, hq⟩
  exact ⟨.non, _, d_write (t' := s.toks) I (by rw [hd]; exact True.intro) hs he (dk_new hl hs1 (rel2.merge rel1) dd'), rfl, q⟩
theorem mUpdate : RMt X "dict.update" rUpdate := .mk mt_update
end
end L3

namespace HT
open PySem PyProof.Rows
theorem rcGt_int (A : Around) (s : Shared) (a : Int) (t : Tok) (c : Int) (u : Tok) (prog : Program) (w : World) (E : Value → Shared → Prop) (Q : Value → Shared → Prop) (h : Q (.bool (decide (c < a))) s) :
    wpAny (model prog w) A (richCompare .Gt (.int a t) (.int c u)) Q E s :=
  (PyProof.Rows.gt_int h : wpAny (model prog w) A (compareOp .Gt (.int a t) (.int c u)) Q E s)
theorem rcLe_int (A : Around) (s : Shared) (a : Int) (t : Tok) (c : Int) (u : Tok) (prog : Program) (w : World) (E : Value → Shared → Prop) (Q : Value → Shared → Prop) (h : Q (.bool (decide (a ≤ c))) s) :
    wpAny (model prog w) A (richCompare .LtE (.int a t) (.int c u)) Q E s :=
  (PyProof.Rows.le_int h : wpAny (model prog w) A (compareOp .LtE (.int a t) (.int c u)) Q E s)
section
open PySem.SeqAt
open PySem.AutoSeq1 (wpAny_loadPart')
open PySem.MeetsSeq PySem.MeetsSeq2 PySem.MeetsSeq3
/-- who ends first, of lists gone through side by side -/
theorem lex_end {vs ws : List Value} {ns ms : List Int} {a b : Nat} (hv : IntsAre vs ns) (hw : IntsAre ws ms) (hz : vs.zip ws = []) (hl : ns.length + b = ms.length + a) : lexLt ns ms = decide (a < b) := by
  cases hv with
  | nil =>
    cases hw with
    | nil =>
      simp only [List.length_nil] at hl
      exact (decide_eq_false (by omega)).symm
    | cons c u hw =>
      simp only [List.length_nil, List.length_cons] at hl
      exact (decide_eq_true (by omega)).symm
  | cons a t hv =>
    cases hw with
    | nil =>
      simp only [List.length_nil, List.length_cons] at hl
      exact (decide_eq_false (by omega)).symm
    | cons c u hw => cases hz
theorem zip_nil_symm {vs ws : List Value} (h : vs.zip ws = []) : ws.zip vs = [] := by
  cases vs with
  | nil => simp
  | cons a r =>
    cases ws with
    | nil => simp
    | cons b t => cases h
theorem tuple_gt_ints (l b : Addr) (items items2 : Array Value) (n n2 : Nat) (dd dd2 : Option Addr) (sl sl2 : Array (Option Value)) (ns ms : List Int) (hi : IntsAre items.toList ns) (hj : IntsAre items2.toList ms) :
    Meets (Builtin.«tuple.__gt__» ⟨[.ref l, .ref b], []⟩)
      (fun _ R s => s.heap.get? l = some { cls := .type "tuple", dict := dd, data := .seq items n, slots := sl } ∧ s.heap.get? b = some { cls := .type "tuple", dict := dd2, data := .seq items2 n2, slots := sl2 } ∧
        R (.ok (.ret (.bool (lexLt ms ns)))) s) :=
  .of_wp fun prog w A R s h => by
    obtain ⟨hp, g, d, tk, os⟩ := s; obtain ⟨hl, hb, h⟩ := h
    have f2 := AutoSeq1.sub_tuple_tuple
    have z1 : items.size = ns.length := by rw [← hi.length]; simp
    have z2 : items2.size = ms.length := by rw [← hj.length]; simp
    wp_walk using wpAny_loadPart' hl, wpAny_loadPart' hb, wpAny_forIn_list _ (fun rest b s' => b.1 = none ∧ s' = ⟨hp, g, d, tk, os⟩ ∧ ∃ (vs ws : List Value) (ns' ms' : List Int), rest = vs.zip ws ∧
      IntsAre vs ns' ∧ IntsAre ws ms' ∧ ns'.length + items2.size = ms'.length + items.size ∧ R (.ok (.ret (.bool (lexLt ms' ns')))) ⟨hp, g, d, tk, os⟩) _
    case turn =>
      rintro ⟨y, x⟩ rest b s' ⟨hb', rfl, vs, ws, ns', ms', hz, hvi, hwi, hlen, hR⟩
      cases hvi with
      | nil => rw [List.zip_nil_left] at hz; cases hz
      | cons a t hvi' =>
        cases hwi with
        | nil => rw [List.zip_nil_right] at hz; cases hz
        | cons c u hwi' =>
          rw [List.zip_cons_cons] at hz
          injection hz with hyx hrest
          injection hyx with hy hx
          subst hy hx
          rw [lexLt_cons] at hR
          simp only [List.length_cons] at hlen
          obtain ⟨e, he, hiff⟩ := eqAt_int A.in1 ⟨hp, g, d, tk, os⟩ a t c u
          refine wpAny_bind (he prog w _ _ ?_)
          cases e with
          | true =>
            rw [if_pos (hiff.mp rfl).symm] at hR
            wp_walk
            exact ⟨rfl, rfl, _, _, _, _, hrest, hvi', hwi', by omega, hR⟩
          | false =>
            rw [if_neg (fun q => absurd (hiff.mpr q.symm) Bool.false_ne_true)] at hR
            have hri := rcGt_int A.in1 ⟨hp, g, d, tk, os⟩ a t c u prog w
            wp_walk using hri
            exact ⟨_, rfl, by simpa using hR⟩
    case fin =>
      rintro ⟨b1, b2⟩ s' ⟨hb', rfl, vs, ws, ns', ms', hz, hvi, hwi, hlen, hR⟩
      simp only at hb'
      subst hb'
      have hv : lexLt ms' ns' = decide (items2.size < items.size) := lex_end hwi hvi (zip_nil_symm hz.symm) (by omega)
      rw [hv] at hR
      wp_walk
      exact ⟨_, rfl, by simpa [Builtin.Tuple.tupleCompareSizes] using hR⟩
    case h =>
      exact ⟨rfl, rfl, items.toList, items2.toList, ns, ms, rfl, hi, hj, by omega, h⟩
theorem tuple_le_ints (l b : Addr) (items items2 : Array Value) (n n2 : Nat) (dd dd2 : Option Addr) (sl sl2 : Array (Option Value)) (ns ms : List Int) (hi : IntsAre items.toList ns) (hj : IntsAre items2.toList ms) :
    Meets (Builtin.«tuple.__le__» ⟨[.ref l, .ref b], []⟩)
      (fun _ R s => s.heap.get? l = some { cls := .type "tuple", dict := dd, data := .seq items n, slots := sl } ∧ s.heap.get? b = some { cls := .type "tuple", dict := dd2, data := .seq items2 n2, slots := sl2 } ∧
        R (.ok (.ret (.bool (!lexLt ms ns)))) s) :=
  .of_wp fun prog w A R s h => by
    obtain ⟨hp, g, d, tk, os⟩ := s; obtain ⟨hl, hb, h⟩ := h
    have f2 := AutoSeq1.sub_tuple_tuple
    have z1 : items.size = ns.length := by rw [← hi.length]; simp
    have z2 : items2.size = ms.length := by rw [← hj.length]; simp
    wp_walk using wpAny_loadPart' hl, wpAny_loadPart' hb, wpAny_forIn_list _ (fun rest b s' => b.1 = none ∧ s' = ⟨hp, g, d, tk, os⟩ ∧ ∃ (vs ws : List Value) (ns' ms' : List Int), rest = vs.zip ws ∧
      IntsAre vs ns' ∧ IntsAre ws ms' ∧ ns'.length + items2.size = ms'.length + items.size ∧ R (.ok (.ret (.bool (!lexLt ms' ns')))) ⟨hp, g, d, tk, os⟩) _
    case turn =>
      rintro ⟨y, x⟩ rest b s' ⟨hb', rfl, vs, ws, ns', ms', hz, hvi, hwi, hlen, hR⟩
      cases hvi with
      | nil => rw [List.zip_nil_left] at hz; cases hz
      | cons a t hvi' =>
        cases hwi with
        | nil => rw [List.zip_nil_right] at hz; cases hz
        | cons c u hwi' =>
          rw [List.zip_cons_cons] at hz
          injection hz with hyx hrest
          injection hyx with hy hx
          subst hy hx
          rw [lexLt_cons] at hR
          simp only [List.length_cons] at hlen
          obtain ⟨e, he, hiff⟩ := eqAt_int A.in1 ⟨hp, g, d, tk, os⟩ a t c u
          refine wpAny_bind (he prog w _ _ ?_)
          cases e with
          | true =>
            rw [if_pos (hiff.mp rfl).symm] at hR
            wp_walk
            exact ⟨rfl, rfl, _, _, _, _, hrest, hvi', hwi', by omega, hR⟩
          | false =>
            have hne : ¬ a = c := fun q => absurd (hiff.mpr q) Bool.false_ne_true
            rw [if_neg (fun q => hne q.symm)] at hR
            have hd : (!decide (c < a)) = decide (a ≤ c) := by
              by_cases h : c < a
              · rw [decide_eq_true h, decide_eq_false (by omega)]; rfl
              · rw [decide_eq_false h, decide_eq_true (by omega)]; rfl
            rw [hd] at hR
            have hri := rcLe_int A.in1 ⟨hp, g, d, tk, os⟩ a t c u prog w
            wp_walk using hri
            exact ⟨_, rfl, by simpa using hR⟩
    case fin =>
      rintro ⟨b1, b2⟩ s' ⟨hb', rfl, vs, ws, ns', ms', hz, hvi, hwi, hlen, hR⟩
      simp only at hb'
      subst hb'
      have hv : (!lexLt ms' ns') = decide (items.size ≤ items2.size) := by
        rw [lex_end hwi hvi (zip_nil_symm hz.symm) (a := items2.size) (b := items.size) (by omega)]
        by_cases h : items2.size < items.size
        · rw [decide_eq_true h, decide_eq_false (by omega)]; rfl
        · rw [decide_eq_false h, decide_eq_true (by omega)]; rfl
      rw [hv] at hR
      wp_walk
      exact ⟨_, rfl, by simpa [Builtin.Tuple.tupleCompareSizes] using hR⟩
    case h =>
      exact ⟨rfl, rfl, items.toList, items2.toList, ns, ms, rfl, hi, hj, by omega, h⟩
end
section
variable {prog : Program} {w : World} {A : Around} {E : Value → Shared → Prop} {s : Shared}
theorem gt_tupInts {l b : Addr} {items items2 : Array Value} {ns ms : List Int} {Q : Value → Shared → Prop} (hl : IsTup s.heap l items) (hb : IsTup s.heap b items2) (hi : IntsAre items.toList ns) (hj : IntsAre items2.toList ms)
    (hu : A.units < cLine) (h : Q (.bool (lexLt ms ns)) s) : wpAny (model prog w) A (compareOp .Gt (.ref l) (.ref b)) Q E s := by
  obtain ⟨⟨cls, dd, data, sl⟩, ho, hc, n, hd⟩ := id hl
  obtain ⟨⟨cls2, dd2, data2, sl2⟩, ho2, hc2, n2, hd2⟩ := id hb
  simp only at hc hd hc2 hd2
  subst hc hd hc2 hd2
  exact richCompare_meets_room (op := .Gt) ⟨_, ho, rfl⟩ ⟨_, ho2, rfl⟩ PySem.F.slot_tuple_gt PySem.F.entry_tuple_gt (PySem.F.args_tuple_gt_2 _ _) (tuple_gt_ints l b items items2 n n2 dd dd2 sl sl2 ns ms hi hj)
    ⟨ho, ho2, show Value.bool (lexLt ms ns) ≠ Value.notImplemented ∧ Q (.bool (lexLt ms ns)) s from ⟨(fun x => nomatch x), h⟩⟩ hu
theorem le_tupInts {l b : Addr} {items items2 : Array Value} {ns ms : List Int} {Q : Value → Shared → Prop} (hl : IsTup s.heap l items) (hb : IsTup s.heap b items2) (hi : IntsAre items.toList ns) (hj : IntsAre items2.toList ms)
    (hu : A.units < cLine) (h : Q (.bool (!lexLt ms ns)) s) : wpAny (model prog w) A (compareOp .LtE (.ref l) (.ref b)) Q E s := by
  obtain ⟨⟨cls, dd, data, sl⟩, ho, hc, n, hd⟩ := id hl
  obtain ⟨⟨cls2, dd2, data2, sl2⟩, ho2, hc2, n2, hd2⟩ := id hb
  simp only at hc hd hc2 hd2
  subst hc hd hc2 hd2
  exact richCompare_meets_room (op := .LtE) ⟨_, ho, rfl⟩ ⟨_, ho2, rfl⟩ PySem.F.slot_tuple_le PySem.F.entry_tuple_le (PySem.F.args_tuple_le_2 _ _) (tuple_le_ints l b items items2 n n2 dd dd2 sl sl2 ns ms hi hj)
    ⟨ho, ho2, show Value.bool (!lexLt ms ns) ≠ Value.notImplemented ∧ Q (.bool (!lexLt ms ns)) s from ⟨(fun x => nomatch x), h⟩⟩ hu
end
end HT
namespace L3
open PySem PySem.Spec PyProof.Rows L2
section
variable {X : Cx}
/-! ### > and <= of ints, and of tuples of ints -/
def rGtG (K : PySem.W.Frag) : R2 := fun x y H Q => match x, y with
  | .ref a, .ref b => ∃ ns ms, SqT K H a (ns.map V.int) ∧ SqT K H b (ms.map V.int) ∧ Q (.bl (HT.lexLt ms ns)) H
  | x, y => rI0 (fun i j => .bl (decide (j < i))) x y H Q
def rLeG (K : PySem.W.Frag) : R2 := fun x y H Q => match x, y with
  | .ref a, .ref b => ∃ ns ms, SqT K H a (ns.map V.int) ∧ SqT K H b (ms.map V.int) ∧ Q (.bl (!HT.lexLt ms ns)) H
  | x, y => rI0 (fun i j => .bl (decide (i ≤ j))) x y H Q
theorem op_gtG (hu : X.A.units < cLine) : OpR X (compareOp .Gt) (rGtG X.K) := by
  intro pins s σ H x y v u Q I rx ry h
  unfold rGtG at h
  split at h
  · obtain ⟨ns, ms, ha, hb, q⟩ := h
    cases rx
    cases ry
    obtain ⟨its, r1, p1, _⟩ := I.tuple ha
    obtain ⟨its2, r2, p2, _⟩ := I.tuple hb
    exact HT.gt_tupInts p1 p2 (intsAre_of r1) (intsAre_of r2) hu ⟨.bl _, H, I, rfl, q⟩
  · exact op_gt pins s σ H _ _ v u Q I rx ry h
theorem op_leG (hu : X.A.units < cLine) : OpR X (compareOp .LtE) (rLeG X.K) := by
  intro pins s σ H x y v u Q I rx ry h
  unfold rLeG at h
  split at h
  · obtain ⟨ns, ms, ha, hb, q⟩ := h
    cases rx
    cases ry
    obtain ⟨its, r1, p1, _⟩ := I.tuple ha
    obtain ⟨its2, r2, p2, _⟩ := I.tuple hb
    exact HT.le_tupInts p1 p2 (intsAre_of r1) (intsAre_of r2) hu ⟨.bl _, H, I, rfl, q⟩
  · exact op_le pins s σ H _ _ v u Q I rx ry h
theorem rGtQ {k : Nat} {A : Around} (K : PySem.W.Frag) (hr : Room k A) (hA : X.A = A := by rfl) (hK : X.K = K := by rfl) : ROp X (compareOp .Gt) (rGtG K) := by subst hK; exact .mk (op_gtG (by rw [hA]; have := hu_n hr; omega))
theorem rLeQ {k : Nat} {A : Around} (K : PySem.W.Frag) (hr : Room k A) (hA : X.A = A := by rfl) (hK : X.K = K := by rfl) : ROp X (compareOp .LtE) (rLeG K) := by subst hK; exact .mk (op_leG (by rw [hA]; have := hu_n hr; omega))
/-! ### sorted of a list of ints -/
theorem vals_of_ints : ∀ {us : List Value} {ns : List Int}, IntsAre us ns → Vals (ns.map V.int) us
  | _, _, .nil => .nil
  | _, _, .cons n t r => .cons ⟨t, rfl⟩ (vals_of_ints r)
def rSortL (K : PySem.W.Frag) : List V → Hp → VK → Prop := fun xs H Q => ∃ (p : Addr) (ns : List Int), xs = [.ref p] ∧ SqL K H p (ns.map V.int) ∧ ns.length < 64 ∧
  ∀ (q : Addr) (H' : Hp) (ns' : List Int), H q = none → Same H H' → H' q = some (.lst (ns'.map V.int)) → ns'.Perm ns → ns'.Pairwise (· ≤ ·) → Q (.ref q) H'
theorem call_sortL : CallR X (.builtin "sorted") (rSortL X.K) := by
  intro pins s σ H xs us Q I rv h
  obtain ⟨p, ns, rfl, hp, hn, q⟩ := h
  obtain ⟨u, rfl, ru⟩ := vals1 rv
  cases ru
  obtain ⟨its, r, pl, hz⟩ := I.list hp
  have hi := intsAre_of r
  have hlen := r.length
  rw [List.length_map] at hlen
  refine sorted_ints pl.isList hi (by omega) fun out ns' a1 a2 a3 => ?_
  obtain ⟨e, he⟩ := sortedAll_at s.heap its out
  have hl' : ns'.length = ns.length := a2.length_eq
  have hf : H (s.heap.objs.size + 1) = none := I.hok.fresh (Nat.le_succ _)
  refine ⟨.ref (s.heap.objs.size + 1), _, I.laid (t' := s.toks) (o := .lst (ns'.map V.int)) (fun b ob q => sortedAll_old q) (Nat.le_succ _) ⟨by rw [List.length_map]; exact Nat.le_of_lt (Nat.lt_of_lt_of_le (by omega : ns'.length < 64) (by decide)), out.toList, e, vals_of_ints a1, he⟩, rfl, q _ _ ns' hf (same_new hf) upd_same a2 a3⟩
theorem fSort (K : PySem.W.Frag) (hK : X.K = K := by rfl) : RCall X (.builtin "sorted") (rSortL K) := by subst hK; exact .mk call_sortL
end
end L3

namespace HT
open PySem PyProof.Rows
theorem getAttrQ_miss_list {prog : Program} {w : World} {A : Around} {E : Value → Shared → Prop} {s : Shared} {a : Addr} {xs : Array Value} {k : Nat} {sl : Array (Option Value)} {name : Str} {Q : Option Value → Shared → Prop}
    (hx : s.heap.get? a = some { cls := .type "list", dict := none, data := .seq xs k, slots := sl }) (hmiss : typeLookup (.type "list") name = pure none) (hname : (["__module__", "__name__", "__qualname__", "__doc__", "__annotations__"] : List Str).contains name = false) (hA : A.handled = none)
    (h : ∀ h' tk, (∀ b o, s.heap.get? b = some o → h'.get? b = some o) → Q none { s with heap := h', toks := tk }) (hsz : name.length + 100 ≤ sizeLine := by size_fits) :
    wpAny (model prog w) A (getAttr? (.ref a) name) Q E s := by
  obtain ⟨hp, g, d, tk, os⟩ := s
  have hT : ∀ tk', (⟨hp, g, d, tk', os⟩ : Shared).TypeIs (.ref a) "list" := fun _ => ⟨_, hx, rfl⟩
  have f1 := sub_AttributeError
  have f3 := PySem.F.slot_list_getattribute.lookup
  have f4 := PySem.F.slot_list_getattribute.bind (.ref a)
  have f5 := am_list_getattr_none
  unfold getAttr? getAttrBy? getAttrBy
  repeat (any_goals (first | assumption | exact hT _ | ((with_reducible show wpAny _ _ (call (Value.builtin "list.__getattribute__") _ _) _ _ _); refine call_meets PySem.F.slot_list_getattribute (hT _) am_entry_list_getattribute (PySem.F.args_list_getattribute_2 _ _) (meets_getattribute_miss_list a xs k _ name _ hmiss hname hsz) ⟨hx, hA, fun h' tk' e hx' => ?_⟩) | wp_step))
  obtain ⟨t', u', he⟩ := hx'.there
  show wpAny _ _ (getattributeRaised _ _ _ _ _ _ _) _ _ _
  unfold getattributeRaised
  repeat (any_goals (first | assumption | wp_step))
  exact h _ _ hx'.keeps
theorem entry_dul : entryFor table "dict.update.loop" = some Builtin.«dict.update.loop» := entryFor_of_tree (by kernel_rfl)
theorem plain_dul : plainId "dict.update.loop" = true := by decide +kernel
section
variable {prog : Program} {w : World} {A : Around} {R : Result → Shared → Prop} {I : Addr} {fp wr : List Addr} {n : Nat} {P : Nat → Value → Prop} {St : Nat → Heap → Prop} {K : Type} [DecidableEq K] {knd : KeyKind prog w K}
/-- the pairs' dict, i of them in -/
def accP (ps : Nat → K × Value) : Nat → List (K × Value)
  | 0 => []
  | i + 1 => stored (accP ps i) (ps i).1 (ps i).2
theorem stored_len (kvs : List (K × Value)) (k : K) (v : Value) : (stored kvs k v).length ≤ kvs.length + 1 := by
  induction kvs with
  | nil => simp [stored]
  | cons p r ih => unfold stored; split <;> simp_all
theorem accP_len (ps : Nat → K × Value) : ∀ i, (accP ps i).length ≤ i
  | 0 => Nat.le_refl _
  | i + 1 => by have := accP_len ps i; have := stored_len (accP ps i) (ps i).1 (ps i).2; rw [accP]; omega
theorem code_dul (W : Walks prog w A.in1 I fp wr n P St) (S : Addr) (hSf : S ∉ fp) (T : Nat → Addr) (ps : Nat → K × Value) (hT : ∀ i v, i < n → P i v → v = .ref (T i)) (hTn : ∀ i, i < n → T i ∉ S :: wr) (hb : n ≤ sizeLine) :
    ∀ (k i : Nat) (c : Int) (s : Shared), n - i = k → i ≤ n → St i s.heap → (∀ j, j < n → ∃ key, s.heap.IsTuple (T j) #[key, (ps j).2] ∧ knd.is (ps j).1 key = true) → s.heap.DictOf knd S (accP ps i) →
      (∀ h' tk, (∀ b o, b ∉ S :: wr → s.heap.get? b = some o → h'.get? b = some o) → h'.DictOf knd S (accP ps n) → R (.ok (.ret .none)) { s with heap := h', toks := tk }) →
      codeAny (model prog w) A (.builtin "dict.update.loop" ⟨[.ref S, .ref I, rawInt c, .none], []⟩) R s := by
  have hSw : S ∉ wr := fun h => hSf (W.sub _ h)
  intro k
  induction k with
  | zero =>
    intro i c s hk hi hst hp hS hR
    have hin : i = n := by omega
    subst hin
    refine codeAny_builtin entry_dul ?_
    rw [Around.under_plainId plain_dul _]
    show wpAny _ A.in1 (pyNext (.ref I) >>= _) _ _ s
    refine wpAny_bind (W.done s _ _ hst fun h' tk hm => ?_)
    show wpAny _ A.in1 (Builtin.Dict.addKeywords S [] >>= _) _ _ _
    refine wpAny_bind (wpAny_pure (wpAny_pure (hR h' tk (fun b o hb e => hm b o (fun z => hb (List.mem_cons_of_mem _ z)) e) ?_)))
    exact hS.at fun o e => hm S o hSw e
  | succ k ih =>
    intro i c s hk hi hst hp hS hR
    have hlt : i < n := by omega
    refine codeAny_builtin entry_dul ?_
    rw [Around.under_plainId plain_dul _]
    show wpAny _ A.in1 (pyNext (.ref I) >>= _) _ _ s
    refine wpAny_bind (W.item i s _ _ hlt hst fun v h' tk hP hst' hm => ?_)
    cases hT i v hlt hP
    have hm' : ∀ j, j < n → ∃ key, h'.IsTuple (T j) #[key, (ps j).2] ∧ knd.is (ps j).1 key = true := fun j hj => by
      obtain ⟨key, ⟨o, ho, r⟩, hkey⟩ := hp j hj
      exact ⟨key, ⟨o, hm _ _ (fun z => hTn j hj (List.mem_cons_of_mem _ z)) ho, r⟩, hkey⟩
    obtain ⟨key, ⟨o, ho, hc, m, hd⟩, hkey⟩ := hm' i hlt
    have hS' : h'.DictOf knd S (accP ps i) := hS.at fun o e => hm S o hSw e
    have hty : Shared.TypeIs { s with heap := h', toks := tk } (.ref (T i)) "tuple" := ⟨o, ho, hc⟩
    refine wpAny_bind (wpAny_holding (wpAny_bind (wpAny_tryCatch ?_)))
    unfold Builtin.Dict.pairItems
    refine wpAny_bind (wpAny_typeOf hty ?_)
    rw [if_pos (by decide)]
    refine wpAny_bind (wpAny_seqItems ho hd ?_)
    refine wpAny_pure ?_
    have hroom : (accP ps i).length ≤ sizeLine := by have := accP_len ps i; omega
    refine wpAny_holding (wpAny_dictSet_pairs hkey hS' (fun h2 hd2 hsb => ?_) hroom)
    have hTS : ∀ j, j < n → T j ≠ S := fun j hj z => hTn j hj (by rw [z]; exact List.mem_cons_self)
    refine wpAny_pure ⟨plainId_quiet plain_dul _, ih (i + 1) (c + 1) _ (by omega) hlt (W.frame _ h' _ hst' fun b hb o e => ?_) (fun j hj => ?_) hd2 fun h3 tk3 hm3 hd3 => ?_⟩
    · rw [hsb.2 b (fun z => hSf (by rw [← z]; exact hb))]; exact e
    · obtain ⟨key, t, hk'⟩ := hm' j hj
      exact ⟨key, t.at fun o e => by rw [hsb.2 _ (hTS j hj)]; exact e, hk'⟩
    · refine hR h3 tk3 (fun b o hb e => ?_) hd3
      refine hm3 b o hb ?_
      rw [hsb.2 b (fun z => hb (by rw [z]; exact List.mem_cons_self))]
      exact hm b o (fun z => hb (List.mem_cons_of_mem _ z)) e
end
section
variable {prog : Program} {w : World} {A : Around} {E : Value → Shared → Prop} {s : Shared} {K : Type} [DecidableEq K] {knd : KeyKind prog w K}
theorem miss_keys_list : typeLookup (.type "list") "keys" = pure none := am_miss_of_fast (by kernel_rfl)
theorem call_dict_pairs {l : Addr} {vs : List Value} {k : Nat} {sl : Array (Option Value)} {T : Nat → Addr} {ps : Nat → K × Value} {Q : Value → Shared → Prop} (hh : A.handled = none) (hl : s.heap.get? l = some { cls := .type "list", dict := none, data := .seq vs.toArray k, slots := sl })
    (hT : ∀ (i : Nat) (v : Value), vs[i]? = some v → v = .ref (T i)) (hp : ∀ j, j < vs.length → ∃ key, s.heap.IsTuple (T j) #[key, (ps j).2] ∧ knd.is (ps j).1 key = true) (hb : vs.length ≤ sizeLine)
    (h : ∀ h' tk, (∀ b o, s.heap.get? b = some o → h'.get? b = some o) → h'.DictOf knd s.heap.objs.size (accP ps vs.length) → Q (.ref s.heap.objs.size) { s with heap := h', toks := tk }) :
    wpAny (model prog w) A (call (.type "dict") [.ref l]) Q E s := by
  refine callType_codes (Q₁ := fun (obj : Value) (s₁ : Shared) => obj = Value.ref s.heap.objs.size ∧ s₁ = { s with heap := s.heap.push { cls := .type "dict", data := .dict #[] } }) PySem.F.kt_called_dict (PySem.F.kt_typeCall_dict_1 _) PySem.F.entry_dict_init (kt_code_dict_new _ ⟨rfl, rfl⟩) ?_
  rintro obj s₁ ⟨rfl, rfl⟩
  have hnew : (s.heap.push { cls := .type "dict", data := .dict #[] }).DictOf knd s.heap.objs.size [] := Heap.DictOf.new s.heap
  have hl' : (s.heap.push { cls := .type "dict", data := .dict #[] }).get? l = some { cls := .type "list", dict := none, data := .seq vs.toArray k, slots := sl } := Heap.get?_push_of_some _ hl
  have hty : Shared.TypeIs { s with heap := s.heap.push { cls := .type "dict", data := .dict #[] } } (.ref l) "list" := ⟨_, hl', rfl⟩
  refine ⟨hnew.typeIs, PySem.F.args_dict_init_2 _ _, ?_⟩
  unfold Builtin.«dict.__init__»
  refine wpAny_bind ?_
  unfold Builtin.Dict.selfAndRest
  refine wpAny_bind (wpAny_notOrdered_dict hnew.typeIs ?_)
  show wpAny _ _ (pure (s.heap.objs.size, [Value.ref l])) _ _ _
  refine wpAny_pure ?_
  show wpAny _ _ (Builtin.Dict.updateFrom "dict.__init__" s.heap.objs.size (.ref l) [] .none) _ _ _
  unfold Builtin.Dict.updateFrom
  refine wpAny_bind (wpAny_typeOf hty ?_)
  rw [if_pos (by decide)]
  refine wpAny_bind (getAttrQ_miss_list hl' miss_keys_list (by decide) (by simp [hh]) (fun h2 tk2 k2 => ?_))
  have hl2 : h2.IsList l vs.toArray := ⟨_, k2 _ _ hl', rfl, k, rfl⟩
  simp only [Option.isNone_none, if_true]
  refine wpAny_bind (wpAny_rule ?_)
  refine wpAny_bind (wpAny_pyIter_list hl2 ?_)
  have hlt : l < s.heap.objs.size := Heap.lt_size hl
  have hSz : (s.heap.push { cls := .type "dict", data := .dict #[] }).get? s.heap.objs.size = some { cls := .type "dict", data := .dict #[] } := Heap.get?_push_size _ rfl
  have hS2 : s.heap.objs.size < h2.objs.size := Heap.lt_size (k2 _ _ hSz)
  have hTt : ∀ j, j < vs.length → T j < s.heap.objs.size := fun j hj => by
    obtain ⟨key, ⟨o, ho, _⟩, _⟩ := hp j hj
    exact Heap.lt_size ho
  refine wpAny_pure ⟨plainId_quiet plain_dul _, code_dul (knd := knd) (n := vs.toArray.size) (Walks.list (by simp [hh]) h2.objs.size l (Nat.ne_of_lt (Nat.lt_trans hlt hS2)) vs.toArray) s.heap.objs.size ?_ T ps ?_ ?_ (by rw [List.size_toArray]; exact hb) _ 0 0 _ rfl (Nat.zero_le _) ?_ ?_ ?_ ?_⟩
  · simp only [List.mem_cons, List.not_mem_nil, or_false, not_or]; exact ⟨Nat.ne_of_lt hS2, Nat.ne_of_gt hlt⟩
  · intro i v _ hv
    exact hT i v (by simpa using hv)
  · intro i hi
    rw [List.size_toArray] at hi
    have := hTt i hi
    simp only [List.mem_cons, List.not_mem_nil, or_false, not_or]; exact ⟨Nat.ne_of_lt this, Nat.ne_of_lt (Nat.lt_trans this hS2)⟩
  · exact ⟨⟨_, Heap.get?_push_size _ rfl, rfl, rfl⟩, hl2.push _⟩
  · intro j hj
    rw [List.size_toArray] at hj
    obtain ⟨key, t, hk⟩ := hp j hj
    exact ⟨key, t.at fun o e => Heap.get?_push_of_some _ (k2 _ _ (Heap.get?_push_of_some _ e)), hk⟩
  · exact (hnew.at fun o e => k2 _ _ e).at fun o e => Heap.get?_push_of_some _ e
  · intro h3 tk3 hm3 hd3
    rw [List.size_toArray] at hd3
    refine ⟨rfl, h h3 tk3 (fun b o e => ?_) hd3⟩
    have hbl := Heap.lt_size e
    refine hm3 b o ?_ (Heap.get?_push_of_some _ (k2 _ _ (Heap.get?_push_of_some _ e)))
    simp only [List.mem_cons, List.not_mem_nil, or_false, not_or]; exact ⟨Nat.ne_of_lt hbl, Nat.ne_of_lt (Nat.lt_trans hbl hS2)⟩
end
end HT
namespace L3
open PySem PySem.Spec PyProof.Rows L2
section
variable {X : Cx}
theorem accP_eq {K : Type} [DecidableEq K] (d : K × Value) (us : List (K × Value)) : ∀ i, i ≤ us.length → HT.accP (fun j => us.getD j d) i = (us.take i).foldl (fun a p => stored a p.1 p.2) []
  | 0, _ => by simp [HT.accP]
  | i + 1, h => by
    have hi : us[i]? = some us[i] := List.getElem?_eq_getElem (by omega)
    rw [HT.accP, accP_eq d us i (by omega), List.take_add_one, hi, List.foldl_append]
    simp [List.getD_eq_getElem?_getD, hi]
theorem kv_fold : ∀ {prs : List (Key × V)} {us : List (Key × Value)}, KV prs us → ∀ {kvs : List (Key × V)} {vs : List (Key × Value)}, KV kvs vs → KV (mergeK kvs prs) (us.foldl (fun a p => stored a p.1 p.2) vs) := by
  intro prs us r
  unfold KV at r
  induction r with
  | nil => intro kvs vs h; exact h
  | @cons a b l₁ l₂ hk hr ih =>
    intro kvs vs h
    obtain ⟨k, v⟩ := a
    obtain ⟨k', u⟩ := b
    obtain ⟨rfl, hv⟩ := hk
    exact ih (h.put _ hv)
/-- the pairs as they lie in the heap -/
theorem pick_pairs {P : Program} {w : World} {H : Hp} {h : Heap} (ok : HOk P w H h) : ∀ (bs : List Addr) (prs : List (Key × V)), bs.length = prs.length → (∀ (j : Nat) b pr, bs[j]? = some b → prs[j]? = some pr → H b = some (.tup [kV pr.1, pr.2])) →
    ∃ us : List (Key × Value), KV prs us ∧ ∀ (j : Nat) b u, bs[j]? = some b → us[j]? = some u → ∃ key, h.IsTuple b #[key, u.2] ∧ (mixKind P w).is u.1 key = true
  | [], [], _, _ => ⟨[], .nil, fun j b u e _ => by simp at e⟩
  | b :: bs, pr :: prs, hl, hp => by
    obtain ⟨us, hk, hu⟩ := pick_pairs ok bs prs (by simpa using hl) (fun j b pr e1 e2 => hp (j + 1) b pr (by simpa using e1) (by simpa using e2))
    obtain ⟨_, its, r, t⟩ := ok b _ (hp 0 b pr rfl rfl)
    cases r with
    | cons r1 r =>
      cases r with
      | cons r2 r =>
        cases r
        refine ⟨(pr.1, _) :: us, .cons ⟨rfl, r2⟩ hk, fun j c u e1 e2 => ?_⟩
        cases j with
        | zero =>
          simp at e1 e2
          subst e1 e2
          exact ⟨_, IsTup.isT t, kV_is r1⟩
        | succ j => exact hu j c u (by simpa using e1) (by simpa using e2)
def rDictP (K : PySem.W.Frag) : List V → Hp → VK → Prop := fun xs H Q => ∃ (p : Addr) (bs : List Addr) (prs : List (Key × V)), xs = [.ref p] ∧ SqL K H p (bs.map V.ref) ∧ bs.length = prs.length ∧
  (∀ (j : Nat) b pr, bs[j]? = some b → prs[j]? = some pr → H b = some (.tup [kV pr.1, pr.2])) ∧ New H (.dK (mergeK [] prs)) Q
theorem vals_refs : ∀ {bs : List Addr} {us : List Value}, Vals (bs.map V.ref) us → us = bs.map Value.ref
  | [], _, .nil => rfl
  | b :: bs, _, .cons r1 r => by
    cases (show _ = Value.ref b from r1)
    rw [vals_refs r]; rfl
theorem call_dictP (hc : X.calm = true) : CallR X (.type "dict") (rDictP X.K) := by
  intro pins s σ H xs us Q I rv h
  obtain ⟨p, bs, prs, rfl, hp, hl, hb, q⟩ := h
  obtain ⟨u, rfl, ru⟩ := vals1 rv
  cases ru
  obtain ⟨its, r, pl, hz⟩ := I.list hp
  have hits := vals_refs r
  subst hits
  obtain ⟨us, hk, hu⟩ := pick_pairs I.hok bs prs hl hb
  have hul : us.length = bs.length := by
    have : ∀ {a : List (Key × V)} {b : List (Key × Value)}, KV a b → b.length = a.length := fun h => by
      unfold KV at h
      induction h with
      | nil => rfl
      | cons _ _ ih => simp [ih]
    rw [this hk, hl]
  rw [List.length_map] at hz
  obtain ⟨o, n, ho, h1, h2, h3⟩ := pl
  obtain ⟨oc, od, odt, os⟩ := o
  simp only at h1 h2 h3
  subst h1 h2 h3
  refine HT.call_dict_pairs (knd := mixKind X.prog X.w) (T := fun j => bs.getD j 0) (ps := fun j => us.getD j (Sum.inl 0, Value.none)) (I.ok.hd hc) ho (fun i v hv => ?_) (fun j hj => ?_) (by rw [List.length_map]; exact hz) (fun h' tk hkp hd => ?_)
  · rw [List.getElem?_map] at hv
    obtain ⟨b, hb', rfl⟩ := Option.map_eq_some_iff.mp hv
    simp [List.getD_eq_getElem?_getD, hb']
  · rw [List.length_map] at hj
    have e1 : bs[j]? = some bs[j] := List.getElem?_eq_getElem hj
    have e2 : us[j]? = some (us[j]'(by omega)) := List.getElem?_eq_getElem (by omega)
    have := hu j _ _ e1 e2
    simpa [List.getD_eq_getElem?_getD, e1, e2] using this
  · rw [List.length_map, ← hul, accP_eq _ us us.length (Nat.le_refl _), List.take_length] at hd
    have hml := length_merge prs []
    rw [List.length_nil, Nat.zero_add, ← hl] at hml
    have hbig := I.big
    refine ⟨.ref s.heap.objs.size, _, I.laid (t' := tk) (o := .dK (mergeK [] prs)) hkp (Nat.le_refl _) (dk_new (Nat.le_trans hml hz) (by simpa using Nat.ne_of_gt hbig) (kv_fold hk .nil) hd), rfl, q.at I.fresh⟩
theorem fDictP (K : PySem.W.Frag) (hc : X.calm = true := by rfl) (hK : X.K = K := by rfl) : RCall X (.type "dict") (rDictP K) := by subst hK; exact .mk (call_dictP hc)
end
end L3

/-! for i, x in enumerate(xs) -/
namespace L3
open PySem PySem.Spec PyProof.Rows L2
section
variable {X : Cx} {pins : List (Addr × Obj)} {σ : L2.St} {H : Hp} {s : Shared} {h' : Heap}
theorem _root_.L2.Inv.turnedL {t' : Nat} {its : List Addr} (I : Inv X pins σ H s) (k : ∀ b o, b ∉ its → s.heap.get? b = some o → h'.get? b = some o) (hf : ∀ b ∈ its, FpOk X pins H b) : Inv X pins σ H { s with heap := h', toks := t' } := by
  have nit : ∀ b u, H b = some u → b ∉ its := fun b u e z => by rw [(hf b z).1] at e; cases e
  have hL : X.env.locals ∉ its := fun z => (hf _ z).2.1 rfl
  refine I.step (g' := s.gens) (d' := s.drawn) (ch := its) (fun b hb => ?_) (fun b o _ _ hc e _ => k b o hc e) (fun b o _ _ hc e _ => ⟨o.slots, k b o hc e⟩) (fun _ _ _ _ n => n)
    (fun b o hc e => ⟨o, k b o hc e⟩) (fun _ _ e => e) (fun _ _ _ e => e) (fun b ps e => ⟨#[], by rw [e]; simp⟩) (fun m hm => ?_) (fun b u e => ?_) I.bare
  · obtain ⟨_, h1, _, h2, h3, h4⟩ := hf b hb
    exact ⟨h2, h1, h3, h4⟩
  · obtain ⟨o, es, ep, ho, r⟩ := hm
    exact ⟨o, es, ep, k _ o hL ho, r⟩
  · refine (I.hok b u e).stay (fun c v hc q => k c v ?_ q) (fun _ q => q) fun _ _ q => q
    rcases hc with z | z
    · rw [z]; exact nit b u e
    · exact nit c _ z
end
def Ite (K : PySem.W.Frag) (a : Addr) : It :=
  ⟨fun i H => ∃ xs x, SqL K H a xs ∧ xs[i]? = some x, fun i H v H' => ∃ x T, (∀ xs, SqL K H a xs → xs[i]? = some x) ∧ v = .ref T ∧ H T = none ∧ H' = upd H T (.tup [.int i, x]), fun i H => ∃ xs, SqL K H a xs ∧ xs.length ≤ i⟩
theorem fpOk_upd {X : Cx} {pins : List (Addr × Obj)} {H : Hp} {T b : Addr} {o : HO} (h : FpOk X pins H b) (hb : b ≠ T) : FpOk X pins (upd H T o) b := by
  obtain ⟨h1, r⟩ := h
  exact ⟨by rw [upd_ne hb]; exact h1, r⟩
theorem turn_enum {P : Program} {w : World} {K : PySem.W.Frag} {elts : List Expr} {kk : Nat} {tp : Pos} (a e it : Addr) (hei : e ≠ it) : Turn P w K (.Tuple elts kk tp) (Ite K a) [e, it] e (fun i h => (∃ old, IsEnum h e it i old) ∧ h.IsListIter it a i) where
  mem := by simp
  obj := fun i h st b hb => by
    obtain ⟨⟨old, he⟩, o, hi, c, d⟩ := st
    simp only [List.mem_cons, List.not_mem_nil, or_false] at hb
    rcases hb with rfl | rfl
    · exact ⟨_, he, fun v z => by cases z⟩
    · exact ⟨o, hi, fun v z => by rw [d] at z; cases z⟩
  keep := fun i h h' st k => by
    obtain ⟨⟨old, he⟩, hi⟩ := st
    exact ⟨⟨old, k e (by simp) _ he⟩, hi.at fun o x => k it (by simp) o x⟩
  item := by
    intro X hP hw hK hc i pins s σ H E I hf st hg
    subst hP hw hK
    obtain ⟨xs, x, hq, hx⟩ := hg
    obtain ⟨its, rv, p, hz⟩ := I.list hq
    obtain ⟨u, hu, ru⟩ := rv.get hx
    obtain ⟨⟨old, he⟩, hit⟩ := st
    have helt : e < s.heap.objs.size := Heap.lt_size he
    have hilt : it < s.heap.objs.size := by obtain ⟨_, y, _⟩ := hit; exact Heap.lt_size y
    have hfe := hf e (by simp)
    have hfi := hf it (by simp)
    refine wpAny_pyNext_enum_item he hit p.isList (x := u) (by simpa using hu) hei fun h1 ho hit1 hT hsz hk => ?_
    refine ⟨_, rfl, ?_⟩
    refine wpAny_letOwnedTupleGo_enum (s := { s with heap := h1, toks := s.toks + 1 }) ho fun h2 he2 hs2 => ?_
    have hfr : H s.heap.objs.size = none := I.hok.fresh (Nat.le_refl _)
    have I1 : Inv X pins σ (upd H s.heap.objs.size (.tup [.int i, x])) { s with heap := s.heap.push { cls := .type "tuple", data := .seq #[.int i s.toks, u] }, toks := s.toks + 1 } :=
      I.laid (t' := s.toks + 1) (o := .tup [.int i, x]) (fun b o q => Heap.get?_push_of_some _ q) (Nat.le_refl _) ⟨(show 2 ≤ sizeLine by decide), [.int i s.toks, u], .cons ⟨s.toks, rfl⟩ (.cons ru .nil), IsTup.new _ _⟩
    have hT2 : h2.get? s.heap.objs.size = some { cls := .type "tuple", data := .seq #[.int i s.toks, u] } := (hs2.2 _ (Nat.ne_of_gt helt)).trans hT
    have I2 : Inv X pins σ (upd H s.heap.objs.size (.tup [.int i, x])) { s with heap := h2, toks := s.toks + 1 } := by
      refine L2.Inv.turnedL (s := { s with heap := s.heap.push { cls := .type "tuple", data := .seq #[.int i s.toks, u] }, toks := s.toks + 1 }) (its := [e, it]) (t' := s.toks + 1) (h' := h2) I1 (fun b o hb q => ?_) (fun b hb => ?_)
      · simp only [List.mem_cons, List.not_mem_nil, or_false, not_or] at hb
        rcases Nat.lt_or_ge b s.heap.objs.size with hlt | hge
        · have q' : s.heap.get? b = some o := by
            rw [Heap.get?_push_ne _ _ _ (Nat.ne_of_lt hlt)] at q; exact q
          exact (hs2.2 b hb.1).trans (hk b o hb.1 hb.2 q')
        · have hlt2 := Heap.lt_size q
          rw [Heap.size_push] at hlt2
          have hbe : b = s.heap.objs.size := Nat.le_antisymm (Nat.le_of_lt_succ hlt2) hge
          subst hbe
          rw [Heap.get?_push_size _ rfl] at q
          cases q
          exact hT2
      · simp only [List.mem_cons, List.not_mem_nil, or_false] at hb
        rcases hb with rfl | rfl
        · exact fpOk_upd hfe (Nat.ne_of_lt helt)
        · exact fpOk_upd hfi (Nat.ne_of_lt hilt)
    refine ⟨.ref s.heap.objs.size, _, I2, rfl, ⟨x, _, fun ys hy => by rw [I.list_inj hy hq]; exact hx, rfl, hfr, rfl⟩, ⟨⟨u, by simpa using he2⟩, hit1.at fun o y => (hs2.2 it (Ne.symm hei)).trans y⟩, fun b hb => ?_⟩
    simp only [List.mem_cons, List.not_mem_nil, or_false] at hb
    rcases hb with rfl | rfl
    · rw [upd_ne (Nat.ne_of_lt helt)]; exact hfe.1
    · rw [upd_ne (Nat.ne_of_lt hilt)]; exact hfi.1
  done := by
    intro X hP hw hK hc i pins s σ H E I hf st hg
    subst hP hw hK
    obtain ⟨xs, hq, hx⟩ := hg
    obtain ⟨its, rv, p, hz⟩ := I.list hq
    obtain ⟨⟨old, he⟩, hit⟩ := st
    have hl := rv.length
    refine wpAny_pyNext_enum_end (I.ok.hd hc) he hit p.isList (by simp; omega) fun h' eb => ⟨rfl, ?_⟩
    exact I.turnedL (its := [e, it]) (t' := s.toks) (fun b o hb q => eb b o (fun z => hb (by simp [z])) q) hf
  self := fun _ _ _ _ _ st h => by
    obtain ⟨⟨old, he⟩, _⟩ := st
    exact wpAny_pyIter_enum he h
section
variable {X : Cx}
def iEnum (ta : TA) (K : PySem.W.Frag) : TI := fun σ H R => ta σ H fun vs H1 => ∃ a xs, vs = [.ref a] ∧ H1 a = some (.lst xs) ∧ R (Ite K a) H1
theorem bt_enumerate' : bootBuiltins "enumerate" = some (.type "enumerate") := by decide +kernel
theorem pi_enum {elts : List Expr} {kk : Nat} {tp : Pos} {a : Expr} {ta : TA} {p pos : Pos} (hg : Gl X "enumerate") (hm : X.mg "enumerate" = none) (ha : PA X [a] ta) (hs : starEach [a] X.env = [(false, eval a X.env)]) : PI X (.Tuple elts kk tp) (.Call (.Name "enumerate" p) [a] [] pos) (iEnum ta X.K) := by
  intro pins s σ H R I h
  refine Call_ (ld_blt I hg hm bt_enumerate' (PyProof.Rows.callWith_type1 (thn (ha pos pins s σ H _ I h) fun us s1 ⟨vs, H1, I1, r1, q1⟩ => ?_) hs rfl))
  obtain ⟨l, xs, e, hl, q⟩ := q1
  subst e
  cases r1 with
  | cons r rr =>
    cases rr
    cases r
    obtain ⟨z, its, n, rv, ho⟩ := I1.hok l _ hl
    refine call_enumerate_1 ho fun h' he hi hsz hk => ?_
    refine wpAny_pyIter_enum he ?_
    have I2 : Inv X pins σ H1 { s1 with heap := h' } := I1.kept (t' := s1.toks) hk
    refine ⟨s1.heap.objs.size + 1, [s1.heap.objs.size + 1, s1.heap.objs.size], _, _, H1, rfl, I2, turn_enum l _ _ (Nat.succ_ne_self _), ⟨⟨_, he⟩, hi⟩, fun b hb => ?_, q⟩
    simp only [List.mem_cons, List.not_mem_nil, or_false] at hb
    rcases hb with rfl | rfl
    · exact I1.fpOk (Nat.le_succ _) (I1.hok.fresh (Nat.le_succ _))
    · exact I1.fpOk (Nat.le_refl _) (I1.hok.fresh (Nat.le_refl _))
theorem ienum {elts : List Expr} {kk : Nat} {tp : Pos} {a : Expr} {ta : TA} {p pos : Pos} (K : PySem.W.Frag) (hg : Gl X "enumerate") (hm : X.mg "enumerate" = none) (ha : QA X [a] ta) (h : notStar a = true := by rfl) (hK : X.K = K := by rfl) : QI X (.Tuple elts kk tp) (.Call (.Name "enumerate" p) [a] [] pos) (iEnum ta K) := by
  subst hK
  exact .mk (pi_enum hg hm ha.un (by rw [star_cons h, star_nil]))
theorem for_enum {K : PySem.W.Frag} {a : Addr} {xs : List V} {g : TG} {tb : TS} {D : Ends} {σ : L2.St} {H : Hp} (Pv : Nat → L2.St → Hp → Prop) (h0 : Pv 0 σ H) (hl : ∀ i σ H, i ≤ xs.length → Pv i σ H → H a = some (.lst xs))
    (hs : ∀ i x σ H T, xs[i]? = some x → Pv i σ H → H T = none → g (.ref T) σ (upd H T (.tup [.int i, x])) fun σ2 H2 => tb { D with nx := Pv (i + 1), ct := Pv (i + 1), bk := D.nx } σ2 H2) (hd : ∀ σ H, Pv xs.length σ H → D.nx σ H) :
    ∃ W : Nat → Nat → L2.St → Hp → Prop, (∃ m, W 0 m σ H) ∧ ∀ i m σ H, W i m σ H →
      ((Ite K a).stop i H ∧ D.nx σ H) ∨ ((Ite K a).go i H ∧ ∃ N : L2.St → Hp → Prop, (∀ σ' H', N σ' H' → ∃ m', m' < m ∧ W (i + 1) m' σ' H') ∧ ∀ x H', (Ite K a).yld i H x H' → g x σ H' fun σ2 H2 => tb { D with nx := N, ct := N, bk := D.nx } σ2 H2) := by
  refine ⟨fun i m σ H => m = xs.length - i ∧ i ≤ xs.length ∧ Pv i σ H, ⟨xs.length, by simp, Nat.zero_le _, h0⟩, ?_⟩
  rintro i m σ H ⟨rfl, hi, p⟩
  have q := hl i σ H hi p
  by_cases hlt : i < xs.length
  · refine .inr ⟨⟨xs, xs[i], SqL.of q, by simp [hlt]⟩, Pv (i + 1), fun σ' H' p' => ⟨xs.length - (i + 1), by omega, rfl, hlt, p'⟩, fun x H' y => ?_⟩
    obtain ⟨y, T, hy, rfl, hT, rfl⟩ := y
    exact hs i y σ H T (hy xs (SqL.of q)) p hT
  · have e : i = xs.length := by omega
    subst e
    exact .inl ⟨⟨xs, SqL.of q, Nat.le_refl _⟩, hd σ H p⟩
end
end L3

namespace L3
open PySem PySem.Spec PyProof.Rows L2
section
variable {X : Cx}
/-! ### min of a list of ints -/
def rMinL (K : PySem.W.Frag) : List V → Hp → VK → Prop := fun xs H Q => ∃ (p : Addr) (ns : List Int), xs = [.ref p] ∧ SqL K H p (ns.map V.int) ∧ 0 < ns.length ∧ ∀ M, M ∈ ns → (∀ a ∈ ns, M ≤ a) → Q (.int M) H
theorem call_minL (hc : X.calm = true) : CallR X (.builtin "min") (rMinL X.K) := by
  intro pins s σ H xs us Q I rv h
  obtain ⟨p, ns, rfl, hp, hne, q⟩ := h
  obtain ⟨u, rfl, ru⟩ := vals1 rv
  cases ru
  obtain ⟨its, r, pl, hz⟩ := I.list hp
  have hi := intsAre_of r
  obtain ⟨ys, e⟩ := hi.allInts.items
  have hns : ns = ys.toList.map (·.1) := by rw [← hi.numsOf, ← nums_intItems, ← e]
  have hsz : 0 < ys.size := by
    have h3 := hne; rw [hns, List.length_map, Array.length_toList] at h3; exact h3
  have hl := pl.isList
  rw [e] at hl
  refine min_intList (I.ok.hd hc) hl hsz fun v h' tk hv hk => ?_
  obtain ⟨t, rfl⟩ := intItems_at hv
  obtain ⟨h1, h2⟩ := argBest_lt (numAt ys) (ys.size - 1)
  refine ⟨.int _, H, I.kept hk, ⟨t, rfl⟩, q _ ?_ fun a ha => ?_⟩
  · rw [hns, numAt_eq]; exact getD_mem (by rw [List.length_map, Array.length_toList]; omega)
  · rw [hns] at ha
    obtain ⟨j, hj, rfl⟩ := mem_getD ha
    rw [List.length_map, Array.length_toList] at hj
    rw [← numAt_eq]; exact h2 j (by omega)
theorem fMin (K : PySem.W.Frag) (hc : X.calm = true := by rfl) (hK : X.K = K := by rfl) : RCall X (.builtin "min") (rMinL K) := by subst hK; exact .mk (call_minL hc)
/-! ### d.get(k), d.get(k, x), d.pop(k) -/
variable {o e f : Expr} {apos cpos : Pos} {td ty tx : TE} {k : Nat} {A : Around}
theorem qdg1 (hr : Room k A) (ho : QE X o td) (he : QE X e ty) (m : M1 X o "get" apos e cpos := by constructor <;> rfl) (hA : X.A = A := by rfl) : QE X (.Call (.Attribute o "get" apos) [e] [] cpos) (tDGet1 td ty) := .mk (pe_dget1 (by rw [hA]; exact hu_of hr) ho.un he.un m)
theorem qdg2 (hr : Room k A) (ho : QE X o td) (he : QE X e ty) (hf : QE X f tx) (m : M2 X o "get" apos e f cpos := by constructor <;> rfl) (hA : X.A = A := by rfl) : QE X (.Call (.Attribute o "get" apos) [e, f] [] cpos) (tDGet2 td ty tx) := .mk (pe_dget2 (by rw [hA]; exact hu_of hr) ho.un he.un hf.un m)
theorem qdp1 (ho : QE X o td) (he : QE X e ty) (m : M1 X o "pop" apos e cpos := by constructor <;> rfl) : QE X (.Call (.Attribute o "pop" apos) [e] [] cpos) (tDPop1 td ty) := .mk (pe_dpop1 ho.un he.un m)
end
end L3

/-! for k in d: the dict is frozen as it stands -/
namespace L3
open PySem PySem.Spec PyProof.Rows L2
def epOf (o : Obj) : Nat := match o.data with
  | .dict _ ep => ep
  | _ => 0
def Itd (ob : Obj) (a : Addr) (kvs : List (Key × V)) : It :=
  ⟨fun i H => H a = some (.frz ob (.dK kvs)) ∧ i < kvs.length, fun i H v H' => H' = H ∧ ∃ k x, kvs[i]? = some (k, x) ∧ v = kV k, fun i H => H a = some (.frz ob (.dK kvs)) ∧ kvs.length ≤ i⟩
theorem is_rel {P : Program} {w : World} {k : Key} {u : Value} (h : (mixKind P w).is k u = true) : RelV (kV k) u := by
  rcases keyIs_shape (show keyIs k u = true from h) with ⟨i, t, rfl, rfl⟩ | ⟨x, t, rfl, rfl⟩
  · exact ⟨t, rfl⟩
  · exact ⟨t, rfl⟩
theorem frz_at {P : Program} {w : World} {H : Hp} {h : Heap} {a : Addr} {ob : Obj} {kvs : List (Key × V)} (ok : HOk P w H h) (e : H a = some (.frz ob (.dK kvs))) : ∃ vs, KV kvs vs ∧ (a == sysModules) = false ∧ h.DictAt (mixKind P w) a vs (epOf ob) := by
  obtain ⟨hg, z, hs, vs, rel, o, es, ep, ho, hc, hd, r⟩ := (show ObjOk P w H h a (.frz ob (.dK kvs)) from ok a _ e)
  rw [hg] at ho
  cases ho
  refine ⟨vs, rel, hs, ob, es, hg, hc, ?_, r⟩
  unfold epOf
  rw [hd]
theorem turn_dict {P : Program} {w : World} {K : PySem.W.Frag} {tg : Expr} (ob : Obj) (a it : Addr) (kvs : List (Key × V)) (hne : a ≠ it) : Turn P w K tg (Itd ob a kvs) [it] it (fun i h => h.IsKeyIter it a i kvs.length (epOf ob)) where
  mem := by simp
  obj := fun i h st b hb => by
    have e : b = it := by simpa using hb
    subst e
    obtain ⟨o, e, c, d⟩ := st
    exact ⟨o, e, fun v z => by rw [d] at z; cases z⟩
  keep := fun i h h' st k => st.at fun o e => k it (by simp) o e
  item := by
    intro X hP hw hK hc i pins s σ H E I hf st hg
    subst hP hw hK
    obtain ⟨e, hi⟩ := hg
    obtain ⟨vs, rel, hs, hd⟩ := frz_at I.hok e
    have hlen := rel.length
    obtain ⟨f0, f1, f2, f3, f4, f5⟩ := hf it (by simp)
    obtain ⟨⟨k, y⟩, hk⟩ : ∃ p, vs[i]? = some p := ⟨vs[i]'(by omega), List.getElem?_eq_getElem (by omega)⟩
    have hkk : ∃ x, kvs[i]? = some (k, x) := by
      have h1 : kvs[i]? = some kvs[i] := List.getElem?_eq_getElem hi
      have h2 := congrArg (fun l => l[i]?) (KV.keys rel)
      simp only [List.getElem?_map, h1, hk, Option.map_some, Option.some.injEq] at h2
      exact ⟨kvs[i].2, by rw [h1, ← h2]⟩
    obtain ⟨x, hx⟩ := hkk
    have st' : s.heap.IsKeyIter it a i vs.length (epOf ob) := by rw [← hlen]; exact st
    refine wpAny_pyNext_dict_item st' hd hk fun key h' hkey hit' sb => ?_
    have I1 : Inv X pins σ H { s with heap := h' } := I.turned (t' := s.toks) (fun b o hb e => (sb.2 b hb).trans e) f0 f1 f3 f4 f5
    rw [← hlen] at hit'
    obtain ⟨o, e', c, d⟩ := id hit'
    exact ⟨key, rfl, go_of (s := { s with heap := h' }) e' c d (by decide) ⟨kV k, H, I1, is_rel hkey, ⟨rfl, k, x, hx, rfl⟩, hit', fun b hb => (hf b hb).1⟩⟩
  done := by
    intro X hP hw hK hc i pins s σ H E I hf st hg
    subst hP hw hK
    obtain ⟨e, hi⟩ := hg
    obtain ⟨vs, rel, hs, hd⟩ := frz_at I.hok e
    have hlen := rel.length
    obtain ⟨f0, f1, f2, f3, f4, f5⟩ := hf it (by simp)
    have st' : s.heap.IsKeyIter it a i vs.length (epOf ob) := by rw [← hlen]; exact st
    exact wpAny_pyNext_dict_end (I.ok.hd hc) st' hd (List.getElem?_eq_none (by omega)) fun h' eb => ⟨rfl, I.turned (t' := s.toks) (fun b o hb e => eb b o hb e) f0 f1 f3 f4 f5⟩
  self := fun _ _ _ _ _ st h => wpAny_pyIter_keyiter st h
section
variable {X : Cx} {tg : Expr}
def iDict (tl : TE) : TI := fun σ H R => tl σ H fun x H1 => ∃ a kvs, x = .ref a ∧ Rd H1 a (.dK kvs) ∧ ∀ ob H4, H4 a = some (.frz ob (.dK kvs)) → Same (rm a H1) H4 → R (Itd ob a kvs) H4
theorem pi_dict {l : Expr} {tl : TE} (hl : PE X l tl) : PI X tg l (iDict tl) := by
  intro pins s σ H R I h
  refine thn (hl pins s σ H _ I h) fun v s1 ⟨x, H1, I1, r1, q1⟩ => ?_
  obtain ⟨a, kvs, e, hrd, q⟩ := q1
  subst e
  cases r1
  have key : ∀ (H2 : Hp) (ob : Obj), Inv X pins σ H2 s1 → H2 a = some (.frz ob (.dK kvs)) → R (Itd ob a kvs) H2 → wpAny (model X.prog X.w) X.A (pyIter (.ref a)) (PIE X pins σ tg R) X.xe s1 := fun H2 ob I2 e q => by
    obtain ⟨vs, rel, hs, hd⟩ := frz_at I2.hok e
    have hlen := rel.length
    refine wpAny_pyIter_dict hs hd ?_
    refine ⟨s1.heap.objs.size, [s1.heap.objs.size], _, _, H2, rfl, I2.kept (t' := s1.toks) fun b o e => Heap.get?_push_of_some _ e, turn_dict ob a _ kvs (Nat.ne_of_lt hd.lt_size), ⟨_, Heap.get?_push_size _ rfl, rfl, by rw [hlen]; rfl⟩, fun b hb => ?_, q⟩
    have e : b = s1.heap.objs.size := by simpa using hb
    subst e
    exact I2.fpOk (Nat.le_refl _) (I2.hok.fresh (Nat.le_refl _))
  rcases hrd with e | ⟨ob, e⟩
  · obtain ⟨z, hs, vs, rel, o, es, ep, ho, r⟩ := (show ObjOk X.prog X.w H1 s1.heap a (.dK kvs) from I1.hok a _ e)
    have I2 : Inv X pins σ (upd H1 a (.frz o (.dK kvs))) { s1 with heap := s1.heap, toks := s1.toks } := I1.write (t' := s1.toks) (by rw [e]; exact True.intro) (.inl rfl) (fun b u _ q => q) ⟨o, ho⟩ ⟨ho, z, hs, vs, rel, o, es, ep, ho, r⟩
    exact key _ o I2 upd_same (q o _ upd_same (same_upd rm_same rm_self))
  · exact key _ ob I1 e (q ob _ e rm_same)
theorem idict {l : Expr} {tl : TE} (hl : QE X l tl) : QI X tg l (iDict tl) := .mk (pi_dict hl.un)
variable {g : TG} {tt : TT} {te : TE} {acc : Addr} {σ0 : L2.St} {H0 : Hp} {Q : Hp → Prop}
/-- by the keys of the frozen dict -/
theorem comp_dict {ob : Obj} {a : Addr} {kvs : List (Key × V)} (Pv : Nat → List V → L2.St → Hp → Prop) (h0 : Pv 0 [] σ0 H0) (hl : ∀ i ys σ H, Pv i ys σ H → H a = some (.frz ob (.dK kvs)))
    (hs : ∀ i ys k x σ H, kvs[i]? = some (k, x) → i < kvs.length → Pv i ys σ H → g (kV k) σ H fun σ2 H2 => tt σ2 H2 fun b H3 => if b = true then te σ2 H3 (CPost Pv acc kvs.length i σ2) else CSkip Pv kvs.length i σ2 H3)
    (hd : ∀ ys σ H, Pv kvs.length ys σ H → Q H) : CompW (Itd ob a kvs) g tt te acc σ0 H0 Q := by
  refine ⟨fun i m σ H => m = kvs.length - i ∧ i ≤ kvs.length ∧ ∃ ys, Pv i ys σ H, ⟨kvs.length, by simp, Nat.zero_le _, [], h0⟩, ?_⟩
  rintro i m σ H ⟨rfl, hi, ys, p⟩
  have q := hl i ys σ H p
  by_cases hlt : i < kvs.length
  · refine .inr ⟨⟨q, hlt⟩, fun x H1 y => ?_⟩
    obtain ⟨e, k, x', hk, rfl⟩ := y
    subst e
    have z := hs i ys k x' σ _ hk hlt p
    unfold CPost CSkip at z
    exact z
  · have e : i = kvs.length := by omega
    subst e
    exact .inl ⟨⟨q, Nat.le_refl _⟩, hd ys σ H p⟩
theorem for_dict {ob : Obj} {a : Addr} {kvs : List (Key × V)} {tb : TS} {D : Ends} {σ : L2.St} {H : Hp} (Pv : Nat → L2.St → Hp → Prop) (h0 : Pv 0 σ H) (hl : ∀ i σ H, i ≤ kvs.length → Pv i σ H → H a = some (.frz ob (.dK kvs)))
    (hs : ∀ i k x σ H, kvs[i]? = some (k, x) → Pv i σ H → g (kV k) σ H fun σ2 H2 => tb { D with nx := Pv (i + 1), ct := Pv (i + 1), bk := D.nx } σ2 H2) (hd : ∀ σ H, Pv kvs.length σ H → D.nx σ H) :
    ∃ W : Nat → Nat → L2.St → Hp → Prop, (∃ m, W 0 m σ H) ∧ ∀ i m σ H, W i m σ H →
      ((Itd ob a kvs).stop i H ∧ D.nx σ H) ∨ ((Itd ob a kvs).go i H ∧ ∃ N : L2.St → Hp → Prop, (∀ σ' H', N σ' H' → ∃ m', m' < m ∧ W (i + 1) m' σ' H') ∧ ∀ x H', (Itd ob a kvs).yld i H x H' → g x σ H' fun σ2 H2 => tb { D with nx := N, ct := N, bk := D.nx } σ2 H2) := by
  refine ⟨fun i m σ H => m = kvs.length - i ∧ i ≤ kvs.length ∧ Pv i σ H, ⟨kvs.length, by simp, Nat.zero_le _, h0⟩, ?_⟩
  rintro i m σ H ⟨rfl, hi, p⟩
  have q := hl i σ H hi p
  by_cases hlt : i < kvs.length
  · refine .inr ⟨⟨q, hlt⟩, Pv (i + 1), fun σ' H' p' => ⟨kvs.length - (i + 1), by omega, rfl, hlt, p'⟩, fun x H' y => ?_⟩
    obtain ⟨e, k, x', hk, rfl⟩ := y
    subst e
    exact hs i k x' σ _ hk p
  · have e : i = kvs.length := by omega
    subst e
    exact .inl ⟨⟨q, Nat.le_refl _⟩, hd σ H p⟩
end
end L3

namespace L3
open PySem PySem.Spec PyProof.Rows L2
section
variable {X : Cx}
theorem mPopAt : RMt X "list.pop" rPopAt := .mk mt_popAt
def rMin2 : List V → Hp → VK → Prop := fun xs H Q => ∃ i j, xs = [.int i, .int j] ∧ Q (.int (if j < i then j else i)) H
theorem fMin2 (hc : X.calm = true := by rfl) : RCall X (.builtin "min") rMin2 := .mk (call_min2 hc)
/-! ### a list times an int -/
def rRepN : R2 := fun x y H Q => ∃ l k xs, x = .ref l ∧ y = .int k ∧ H l = some (.lst xs) ∧ 0 ≤ k ∧ k < 2 ^ 63 ∧ xs.length * k.toNat ≤ sizeLine ∧ New H (.lst (List.replicate k.toNat xs).flatten) Q
theorem op_repN : OpR X (binaryOp .Mult) rRepN := by
  intro pins s σ H x y v u Q I rx ry h
  obtain ⟨l, k, xs, rfl, rfl, hH, h1, h2, hz, q⟩ := h
  exact op_rep pins s σ H _ _ v u Q I rx ry ⟨l, k, xs, rfl, rfl, hH, by omega, h2, hz, fun p hp => q.at hp⟩
theorem rMulL : ROp X (binaryOp .Mult) rRepN := .mk op_repN
/-! ### xs.index(k), there -/
def rIndex : V → List V → Hp → VK → Prop := fun x vs H Q => ∃ (l : Addr) (ns : List Int) (k : Int), x = .ref l ∧ vs = [.int k] ∧ H l = some (.lst (ns.map V.int)) ∧ k ∈ ns ∧ ns.length ≤ 100000 ∧ Q (.int (ns.idxOf k : Nat)) H
theorem index_any {prog : Program} {w : World} {A : Around} {E : Value → Shared → Prop} {s : Shared} {l : Addr} {vs : List Value} {ns : List Int} {k : Int} {t : Tok} {Q : Value → Shared → Prop} (hl : s.heap.IsList l vs.toArray)
    (hi : IntsAre vs ns) (hb : ns.length ≤ 100000) (hk : k ∈ ns) (h : Q (.int (ns.idxOf k : Nat) s.toks) { s with toks := s.toks + 1 }) : wpAny (model prog w) A (call (.builtin "list.index") [.ref l, .int k t]) Q E s := by
  obtain ⟨⟨c1, d1, a1, l1⟩, h1, h2, n1, h3⟩ := id hl
  dsimp only at h2 h3
  subst h2 h3
  have e1 := hi.length
  have h4 : ns.idxOf k < ns.length := List.idxOf_lt_length_iff.mpr hk
  have h5 := PySem.SeqAt.list_indexAt l vs.toArray n1 d1 l1 (.int k t) (isInt k) (ns.idxOf k) (by simpa [e1] using h4) (by omega) (by
    show isInt k vs[ns.idxOf k] = true
    rw [isInt_at k hi _ (by omega) h4]; simp) (by
    intro j g1 g2
    show isInt k vs[j] = false
    rw [isInt_at k hi j (by simpa using g1) (by omega)]; exact ne_of_lt_idxOf g2 _)
  exact call_meets PySem.F.slot_list_index ⟨_, h1, rfl⟩ PySem.F.entry_list_index (PySem.F.args_list_index_2 _ _) h5 ⟨h1, fun y hy => (eq_isInt k t hi y (by simpa using hy)).at _ _, h⟩
theorem mt_index : MtM X "list.index" rIndex := by
  intro pins s σ H x vs v us Q I rx rv h
  obtain ⟨l, ns, k, rfl, rfl, hH, hk, hb, q⟩ := h
  cases rx
  obtain ⟨u, rfl, ru⟩ := rv.one
  obtain ⟨t, rfl⟩ := ru
  obtain ⟨z, its, n, r, hl, e⟩ := I.lstM hH
  refine index_any (vs := its) ⟨_, e, rfl, n, rfl⟩ (intsAre_of r) hb hk ?_
  exact ⟨.int _, H, I.tok _, ⟨_, rfl⟩, q⟩
theorem mIndex : RMt X "list.index" rIndex := .mk mt_index
end
/-! ### for x in reversed(xs) -/
def Itv (K : PySem.W.Frag) (a : Addr) (n : Nat) : It :=
  ⟨fun i H => ∃ xs x, SqL K H a xs ∧ i < n ∧ xs[n - 1 - i]? = some x, fun i H v H' => H' = H ∧ ∀ xs, SqL K H a xs → xs[n - 1 - i]? = some v, fun i _ => i = n⟩
theorem turn_rev {P : Program} {w : World} {K : PySem.W.Frag} {tg : Expr} (a it : Addr) (n : Nat) : Turn P w K tg (Itv K a n) [it] it (fun i h => h.IsRevIter it a ((n : Int) - 1 - i)) where
  mem := by simp
  obj := fun i h st b hb => by
    obtain rfl : b = it := by simpa using hb
    obtain ⟨o, e, c, d⟩ := st
    exact ⟨o, e, fun v z => by rw [d] at z; cases z⟩
  keep := fun i h h' st k => st.at fun o e => k it (by simp) o e
  item := by
    intro X hP hw hK hc i pins s σ H E I hf st hg
    subst hP hw hK
    obtain ⟨xs, x, hq, hi, hx⟩ := hg
    obtain ⟨its, rv, p, hz⟩ := I.list hq
    obtain ⟨u, hu, ru⟩ := rv.get hx
    obtain ⟨f0, f1, f2, f3, f4, f5⟩ := hf it (by simp)
    have e1 : (n : Int) - 1 - i = ((n - 1 - i : Nat) : Int) := by omega
    have st1 : s.heap.IsRevIter it a ((n - 1 - i : Nat) : Int) := e1 ▸ st
    refine wpAny_pyNext_rev_item st1 p.isList (x := u) (by simpa using hu) fun h' st' sb => ?_
    have I1 : Inv X pins σ H { s with heap := h' } := I.turned (t' := s.toks) (fun b o hb e => (sb.2 b hb).trans e) f0 f1 f3 f4 f5
    have e2 : ((n - 1 - i : Nat) : Int) - 1 = (n : Int) - 1 - ((i + 1 : Nat) : Int) := by omega
    rw [e2] at st'
    obtain ⟨o, e, c, d⟩ := id st'
    exact ⟨u, rfl, go_of (s := { s with heap := h' }) e c d (by decide) ⟨x, H, I1, ru, ⟨rfl, fun ys hy => by rw [I.list_inj hy hq]; exact hx⟩, st', fun b hb => (hf b hb).1⟩⟩
  done := by
    intro X hP hw hK hc i pins s σ H E I hf st hg
    subst hP hw hK
    obtain rfl : i = n := hg
    obtain ⟨f0, f1, f2, f3, f4, f5⟩ := hf it (by simp)
    have e1 : (i : Int) - 1 - i = -1 := by omega
    have st1 : s.heap.IsRevIter it a (-1) := e1 ▸ st
    exact wpAny_pyNext_rev_end (I.ok.hd hc) st1 fun h' eb => ⟨rfl, I.turned (t' := s.toks) (fun b o hb e => eb b o hb e) f0 f1 f3 f4 f5⟩
  self := fun _ _ _ _ _ st h => wpAny_pyIter_revIter st h
section
variable {X : Cx}
def iRev (ta : TA) (K : PySem.W.Frag) : TI := fun σ H R => ta σ H fun vs H1 => ∃ a xs, vs = [.ref a] ∧ SqL K H1 a xs ∧ R (Itv K a xs.length) H1
theorem bt_reversed' : bootBuiltins "reversed" = some (.type "reversed") := by decide +kernel
theorem pi_rev {tg a : Expr} {ta : TA} {p pos : Pos} (hg : Gl X "reversed") (hm : X.mg "reversed" = none) (ha : PA X [a] ta) (hs : starEach [a] X.env = [(false, eval a X.env)]) : PI X tg (.Call (.Name "reversed" p) [a] [] pos) (iRev ta X.K) := by
  intro pins s σ H R I h
  refine Call_ (ld_blt I hg hm bt_reversed' (PyProof.Rows.callWith_type1 (thn (ha pos pins s σ H _ I h) fun us s1 ⟨vs, H1, I1, r1, q1⟩ => ?_) hs rfl))
  obtain ⟨l, xs, e, hl, q⟩ := q1
  subst e
  cases r1 with
  | cons r rr =>
    cases rr
    cases r
    obtain ⟨its, rv, pl, hz⟩ := I1.list hl
    refine call_reversed_list pl.isList ?_
    have I2 : Inv X pins σ H1 { s1 with heap := s1.heap.push (revObj l ((its.toArray.size : Int) - 1)) } := I1.kept (t' := s1.toks) fun b o e => Heap.get?_push_of_some _ e
    have hlen := rv.length
    have st : (s1.heap.push (revObj l ((its.toArray.size : Int) - 1))).IsRevIter s1.heap.objs.size l ((xs.length : Int) - 1 - ((0 : Nat) : Int)) := by
      have e : ((its.toArray.size : Nat) : Int) - 1 = (xs.length : Int) - 1 - ((0 : Nat) : Int) := by rw [List.size_toArray, ← hlen]; simp
      rw [← e]
      exact ⟨_, Heap.get?_push_size _ rfl, rfl, rfl⟩
    refine wpAny_pyIter_revIter (i := (xs.length : Int) - 1 - ((0 : Nat) : Int)) st ?_
    refine ⟨s1.heap.objs.size, [s1.heap.objs.size], _, _, H1, rfl, I2, turn_rev l _ xs.length, st, fun b hb => ?_, q⟩
    obtain rfl : b = s1.heap.objs.size := by simpa using hb
    exact I1.fpOk (Nat.le_refl _) (I1.hok.fresh (Nat.le_refl _))
theorem irev {tg a : Expr} {ta : TA} {p pos : Pos} (K : PySem.W.Frag) (hg : Gl X "reversed") (hm : X.mg "reversed" = none) (ha : QA X [a] ta) (h : notStar a = true := by rfl) (hK : X.K = K := by rfl) : QI X tg (.Call (.Name "reversed" p) [a] [] pos) (iRev ta K) := by
  subst hK
  exact .mk (pi_rev hg hm ha.un (by rw [star_cons h, star_nil]))
theorem for_rev {K : PySem.W.Frag} {a : Addr} {xs : List V} {g : TG} {tb : TS} {D : Ends} {σ : L2.St} {H : Hp} (Pv : Nat → L2.St → Hp → Prop) (h0 : Pv 0 σ H) (hl : ∀ i σ H, i ≤ xs.length → Pv i σ H → SqL K H a xs)
    (hs : ∀ i x σ H, i < xs.length → xs[xs.length - 1 - i]? = some x → Pv i σ H → g x σ H fun σ2 H2 => tb { D with nx := Pv (i + 1), ct := Pv (i + 1), bk := D.nx } σ2 H2) (hd : ∀ σ H, Pv xs.length σ H → D.nx σ H) :
    ∃ W : Nat → Nat → L2.St → Hp → Prop, (∃ m, W 0 m σ H) ∧ ∀ i m σ H, W i m σ H →
      ((Itv K a xs.length).stop i H ∧ D.nx σ H) ∨ ((Itv K a xs.length).go i H ∧ ∃ N : L2.St → Hp → Prop, (∀ σ' H', N σ' H' → ∃ m', m' < m ∧ W (i + 1) m' σ' H') ∧ ∀ x H', (Itv K a xs.length).yld i H x H' → g x σ H' fun σ2 H2 => tb { D with nx := N, ct := N, bk := D.nx } σ2 H2) := by
  refine ⟨fun i m σ H => m = xs.length - i ∧ i ≤ xs.length ∧ Pv i σ H, ⟨xs.length, by simp, Nat.zero_le _, h0⟩, ?_⟩
  rintro i m σ H ⟨rfl, hi, p⟩
  have q := hl i σ H hi p
  by_cases hlt : i < xs.length
  · have hx : xs[xs.length - 1 - i]? = some (xs[xs.length - 1 - i]'(by omega)) := List.getElem?_eq_getElem (by omega)
    refine .inr ⟨⟨xs, _, q, hlt, hx⟩, Pv (i + 1), fun σ' H' p' => ⟨xs.length - (i + 1), by omega, rfl, hlt, p'⟩, fun x H' y => ?_⟩
    obtain ⟨rfl, hy⟩ := y
    exact hs i x σ H' hlt (hy xs q) p
  · obtain rfl : i = xs.length := by omega
    exact .inl ⟨rfl, hd σ H p⟩
end
end L3

/-! None asked of a dict of ints and texts; a display of pairs; d[k] op= v -/
namespace L3
open PySem PySem.Spec PyProof.Rows L2
/-! ### a key, or None -/
def okIs : Option Key → Value → Bool
  | none, .none => true
  | some k, v => keyIs k v
  | _, _ => false
theorem okIs_none {v : Value} (h : okIs none v = true) : v = .none := by cases v <;> first | rfl | (simp [okIs] at h)
theorem keyIs_not_none (k : Key) : keyIs k .none = false := by cases k <;> rfl
def noneH : Int := reduceHash 4238894208
theorem hash_none {prog : Program} {w : World} : ∃ c : Int, ∀ {A : Around} {E : Value → Shared → Prop} {s : Shared} {Q : Int → Shared → Prop}, Q c { s with toks := s.toks + 1 } → wpAny (model prog w) A (pyHash .none) Q E s :=
  ⟨_, fun h => PySem.W.pyHash_slot (T := "NoneType") rfl F.slot_NoneType_hash F.entry_NoneType_hash (F.args_NoneType_hash_1 _) (beq_builtin_none _) (.inl rfl) (wpAny_bind (wpAny_pure (wpAny_bind (wpAny_mkInt (wpAny_pure ⟨_, _, rfl, h⟩)))))⟩
noncomputable def optKind (prog : Program) (w : World) : PySem.KeyKind prog w (Option Key) where
  is := okIs
  hash := fun o => match o with | none => Classical.choose (hash_none (prog := prog) (w := w)) | some k => keyH w k
  inj := fun v a b ha hb => by
    cases a with
    | none =>
      have e := okIs_none ha
      subst e
      cases b with
      | none => rfl
      | some k => have := keyIs_not_none k; rw [show okIs (some k) .none = keyIs k .none from rfl, this] at hb; cases hb
    | some k =>
      cases b with
      | none =>
        have e := okIs_none hb
        subst e
        have := keyIs_not_none k; rw [show okIs (some k) .none = keyIs k .none from rfl, this] at ha; cases ha
      | some j => exact congrArg some ((mixKind prog w).inj v k j ha hb)
  byValue := fun k v h => by
    cases k with
    | none => have e := okIs_none h; subst e; rfl
    | some k => exact (mixKind prog w).byValue k v h
  pyHash := fun {A E s k v Q} hv h => by
    cases k with
    | none => have e := okIs_none hv; subst e; exact Classical.choose_spec (hash_none (prog := prog) (w := w)) h
    | some k => exact (mixKind prog w).pyHash (k := k) hv h
  eqBool := fun {A E s a b u v Q} hu hv h => by
    cases a with
    | none =>
      have e := okIs_none hu
      subst e
      cases b with
      | none => have e := okIs_none hv; subst e; exact SeqAt.EqAt.same _ _ _ _ _ (by simpa using h)
      | some k =>
        have h' : Q false s := by simpa using h
        rcases keyIs_shape hv with ⟨i, t, rfl, rfl⟩ | ⟨x, t, rfl, rfl⟩
        · exact SeqAt.EqAt.none_int i t _ _ _ _ h'
        · exact SeqAt.EqAt.none_str x t _ _ _ _ h'
    | some k =>
      cases b with
      | none =>
        have e := okIs_none hv
        subst e
        have h' : Q false s := by simpa using h
        rcases keyIs_shape hu with ⟨i, t, rfl, rfl⟩ | ⟨x, t, rfl, rfl⟩
        · exact SeqAt.EqAt.int_none i t _ _ _ _ h'
        · exact SeqAt.EqAt.str_none x t _ _ _ _ h'
      | some j =>
        refine (mixKind prog w).eqBool (a := k) (b := j) hu hv ?_
        have e : decide ((some k : Option Key) = some j) = decide (k = j) := by simp
        rw [← e]; exact h
  «strs» := fun k x t v h => by
    cases k with
    | none => cases okIs_none h
    | some k => exact (mixKind prog w).strs k x t v h
theorem find_none {es : Array DictEntry} {prog : Program} {w : World} (hk : KeysOf (mixKind prog w) es) : findBy okIs es none = none := by
  unfold findBy
  rw [Option.map_eq_none_iff, Array.find?_eq_none]
  intro e he q
  obtain ⟨k, h1, _⟩ := hk e he
  rw [okIs_none q] at h1
  have h1 : keyIs k .none = true := h1
  rw [keyIs_not_none] at h1; cases h1
theorem mapOf_opt {h : Heap} {a : Addr} {prog : Program} {w : World} {f : Key → Option Value} (m : h.MapOf (mixKind prog w) a f) : h.MapOf (optKind prog w) a (fun o => match o with | none => none | some k => f k) := by
  obtain ⟨o, es, ep, h1, h2, h3, h4, h5⟩ := m
  refine ⟨o, es, ep, h1, h2, h3, fun e he => ?_, fun k => ?_⟩
  · obtain ⟨k, g1, g2⟩ := h4 e he
    exact ⟨some k, g1, g2⟩
  · cases k with
    | none => exact find_none h4
    | some k => exact h5 k
/-- what d.get finds, None asked too -/
def DGetO (H : Hp) (a : Addr) (y : V) (o : Option V) : Prop := DGet H a y o ∨ (y = .non ∧ (∃ kvs, Rd H a (.dK kvs)) ∧ o = none)
section
variable {X : Cx} {pins : List (Addr × Obj)} {σ : L2.St} {H : Hp} {s : Shared} {a : Addr} {y d : V} {u r : Value} {o : Option V} {A : Around} {E : Value → Shared → Prop}
theorem d_getN2 {Q : Value → Shared → Prop} (hu : A.units + 1 < cLine) (I : Inv X pins σ H s) (g : DGetO H a y o) (ry : RelV y u) (rd : RelV d r) (h : ∀ w' s', Inv X pins σ H s' → RelV (o.getD d) w' → Q w' s') :
    wpAny (model X.prog X.w) A (call (.builtin "dict.get") [.ref a, u, r]) Q E s := by
  rcases g with g | ⟨rfl, ⟨kvs, e⟩, rfl⟩
  · exact d_get2 hu I g ry rd h
  · obtain ⟨z, hd, vs, rel, dd⟩ := dk_rd I.hok e
    have eu : u = Value.none := ry
    subst eu
    exact call_meetsIn PySem.F.slot_dict_get dd.typeIs PySem.F.entry_dict_get (PySem.F.args_dict_get_3 _ _ _) (meets_dict_get_default (optKind X.prog X.w) (k := none) a rfl hd r) ⟨_, mapOf_opt dd.mapOf, h _ _ (I.tok _) rd⟩
theorem d_getN1 {Q : Value → Shared → Prop} (hu : A.units + 1 < cLine) (I : Inv X pins σ H s) (g : DGetO H a y o) (ry : RelV y u) (h : ∀ w' s', Inv X pins σ H s' → RelV (o.getD .non) w' → Q w' s') :
    wpAny (model X.prog X.w) A (call (.builtin "dict.get") [.ref a, u]) Q E s := by
  rcases g with g | ⟨rfl, ⟨kvs, e⟩, rfl⟩
  · exact d_get1 hu I g ry h
  · obtain ⟨z, hd, vs, rel, dd⟩ := dk_rd I.hok e
    have eu : u = Value.none := ry
    subst eu
    exact call_meetsIn PySem.F.slot_dict_get dd.typeIs PySem.F.entry_dict_get (PySem.F.args_dict_get_2 _ _) (meets_dict_get (optKind X.prog X.w) (k := none) a rfl hd) ⟨_, mapOf_opt dd.mapOf, h _ _ (I.tok _) rfl⟩
end
def tDGetN1 (td ty : TE) : TE := fun σ H Q => td σ H fun x H1 => ∃ a, x = .ref a ∧ IsD H1 a ∧ ty σ H1 fun y H2 => ∃ o, DGetO H2 a y o ∧ Q (o.getD .non) H2
def tDGetN2 (td ty tx : TE) : TE := fun σ H Q => td σ H fun x H1 => ∃ a, x = .ref a ∧ IsD H1 a ∧ ty σ H1 fun y H2 => tx σ H2 fun z H3 => ∃ o, DGetO H3 a y o ∧ Q (o.getD z) H3
section
variable {X : Cx} {o e f : Expr} {apos cpos : Pos} {td ty tx : TE}
theorem pe_dgetN1 (hu : X.A.units + 1 < cLine) (ho : PE X o td) (he : PE X e ty) (m : M1 X o "get" apos e cpos) : PE X (.Call (.Attribute o "get" apos) [e] [] cpos) (tDGetN1 td ty) := by
  intro pins s σ H Q I h
  refine wpAny_Call_method m.base m.few m.line PySem.F.plainAttrs_dict PySem.F.slot_dict_get PySem.F.type_dict_get (thn (ho pins s σ H _ I h) fun u s1 ⟨x, H1, I1, rx, a, ex, d, q1⟩ => ?_)
  subst ex
  obtain rfl : u = Value.ref a := rx
  obtain ⟨t1, t2, _⟩ := isD_at I1 d
  refine ⟨t1, t2, ?_⟩
  rw [m.trees]
  refine Calls.callWith_builtin rfl (Calls.evalArgs_plain (Calls.spliced_cons (thn (he pins s1 σ H1 _ I1 q1) fun iv s2 ⟨y, H2, I2, ry, ov, g, q2⟩ => Calls.spliced_nil ?_)))
  exact d_getN1 hu I2 g ry fun w' s3 I3 rw' => ⟨_, H2, I3, rw', q2⟩
theorem pe_dgetN2 (hu : X.A.units + 1 < cLine) (ho : PE X o td) (he : PE X e ty) (hf : PE X f tx) (m : M2 X o "get" apos e f cpos) : PE X (.Call (.Attribute o "get" apos) [e, f] [] cpos) (tDGetN2 td ty tx) := by
  intro pins s σ H Q I h
  refine wpAny_Call_method m.base m.few m.line PySem.F.plainAttrs_dict PySem.F.slot_dict_get PySem.F.type_dict_get (thn (ho pins s σ H _ I h) fun u s1 ⟨x, H1, I1, rx, a, ex, d, q1⟩ => ?_)
  subst ex
  obtain rfl : u = Value.ref a := rx
  obtain ⟨t1, t2, _⟩ := isD_at I1 d
  refine ⟨t1, t2, ?_⟩
  rw [m.trees]
  refine Calls.callWith_builtin rfl (Calls.evalArgs_plain (Calls.spliced_cons (thn (he pins s1 σ H1 _ I1 q1) fun iv s2 ⟨y, H2, I2, ry, q2⟩ =>
    Calls.spliced_cons (thn (hf pins s2 σ H2 _ I2 q2) fun fv s3 ⟨z, H3, I3, rz, ov, g, q3⟩ => Calls.spliced_nil ?_))))
  exact d_getN2 hu I3 g ry rz fun w' s4 I4 rw' => ⟨_, H3, I4, rw', q3⟩
variable {k : Nat} {A : Around}
theorem qdn1 (hr : Room k A) (ho : QE X o td) (he : QE X e ty) (m : M1 X o "get" apos e cpos := by constructor <;> rfl) (hA : X.A = A := by rfl) : QE X (.Call (.Attribute o "get" apos) [e] [] cpos) (tDGetN1 td ty) := .mk (pe_dgetN1 (by rw [hA]; exact hu_of hr) ho.un he.un m)
theorem qdn2 (hr : Room k A) (ho : QE X o td) (he : QE X e ty) (hf : QE X f tx) (m : M2 X o "get" apos e f cpos := by constructor <;> rfl) (hA : X.A = A := by rfl) : QE X (.Call (.Attribute o "get" apos) [e, f] [] cpos) (tDGetN2 td ty tx) := .mk (pe_dgetN2 (by rw [hA]; exact hu_of hr) ho.un he.un hf.un m)
end
/-! ### {k: v, ..} -/
@[irreducible] def QP (X : Cx) (pos : Pos) (ks : List (Option Expr)) (vs : List Expr) (trs : List (TE × TE)) : Prop := PPs X pos ks vs trs
section
variable {X : Cx} {pos : Pos} {kx vx : Expr} {ks : List (Option Expr)} {vs : List Expr} {tk tv : TE} {trs : List (TE × TE)}
theorem QP.un (h : QP X pos ks vs trs) : PPs X pos ks vs trs := by unfold QP at h; exact h
theorem pnil : QP X pos [] [] [] := by unfold QP; exact pps_nil
theorem pcons (hk : QE X kx tk) (hv : QE X vx tv) (hr : QP X pos ks vs trs) : QP X pos (some kx :: ks) (vx :: vs) ((tk, tv) :: trs) := by unfold QP; exact pps_cons hk.un hv.un hr.un
theorem qdisp (h : QP X pos ks vs trs) (hall : ks.all (·.isSome) = true := by rfl) (hl : ks.length = vs.length := by rfl) (h0 : ks ≠ [] := by exact List.cons_ne_nil _ _) (h15 : ks.length ≤ 15 := by decide) : QE X (.Dict ks vs pos) (tDisp trs) := .mk (pe_disp h.un hall hl h0 h15)
end
end L3

namespace L3
open PySem PySem.Spec PyProof.Rows L2
/-! ### t[lo:hi], not the whole -/
section
variable {X : Cx}
def rSlTN (K : PySem.W.Frag) : V → Option Int → Option Int → Hp → VK → Prop := fun x lo hi H Q => ∃ a xs, x = .ref a ∧ SqT K H a xs ∧ ¬ (HT.sIx xs.length 0 lo = 0 ∧ HT.sIx xs.length xs.length hi = xs.length) ∧ New H (.tup (cutV xs lo hi)) Q
theorem sl_tupN : SlR X (rSlTN X.K) := by
  intro pins s σ H x v vl vu lo hi sl Q I rx hs pl pu h
  obtain ⟨a, xs, e, hx, hw, q⟩ := h
  exact sl_tup pins s σ H x v vl vu lo hi sl Q I rx hs pl pu ⟨a, xs, e, hx, hw, fun p hp => q.at hp⟩
theorem xSlT (K : PySem.W.Frag) (hK : X.K = K := by rfl) : RSl X (rSlTN K) := by subst hK; exact .mk sl_tupN
/-! ### y in d -/
variable {a b : Expr} {ta tb : TE} {pos : Pos} {k : Nat} {A : Around}
theorem tdin (hr : Room k A) (ha : QE X a ta) (hb : QE X b tb) (hm : behindInMarks .In b = false := by with_unfolding_all rfl) (hA : X.A = A := by rfl) : QT X (.Compare a [.In] [b] pos) (tB (tDIn ta tb)) := .mk (pt_cmp (pc_din (by rw [hA]; exact hu_of hr) ha.un hb.un) hm)
theorem tdnotin (hr : Room k A) (ha : QE X a ta) (hb : QE X b tb) (hm : behindInMarks .NotIn b = false := by with_unfolding_all rfl) (hA : X.A = A := by rfl) : QT X (.Compare a [.NotIn] [b] pos) (tB (tDNotIn ta tb)) := .mk (pt_cmp (pc_dnotin (by rw [hA]; exact hu_of hr) ha.un hb.un) hm)
theorem qdin (hr : Room k A) (ha : QE X a ta) (hb : QE X b tb) (hm : behindInMarks .In b = false := by with_unfolding_all rfl) (hA : X.A = A := by rfl) : QE X (.Compare a [.In] [b] pos) (tDIn ta tb) := .mk (pe_cmp (pc_din (by rw [hA]; exact hu_of hr) ha.un hb.un) hm)
theorem qdnotin (hr : Room k A) (ha : QE X a ta) (hb : QE X b tb) (hm : behindInMarks .NotIn b = false := by with_unfolding_all rfl) (hA : X.A = A := by rfl) : QE X (.Compare a [.NotIn] [b] pos) (tDNotIn ta tb) := .mk (pe_cmp (pc_dnotin (by rw [hA]; exact hu_of hr) ha.un hb.un) hm)
end
/-! ### a comprehension over enumerate(xs) -/
theorem comp_enum {K : PySem.W.Frag} {a : Addr} {xs : List V} {g : TG} {tt : TT} {te : TE} {acc : Addr} {σ0 : L2.St} {H0 : Hp} {Q : Hp → Prop} (Pv : Nat → List V → L2.St → Hp → Prop) (h0 : Pv 0 [] σ0 H0) (hl : ∀ i ys σ H, Pv i ys σ H → H a = some (.lst xs))
    (hs : ∀ i ys x σ H T, xs[i]? = some x → i < xs.length → Pv i ys σ H → H T = none → g (.ref T) σ (upd H T (.tup [.int i, x])) fun σ2 H2 => tt σ2 H2 fun b H3 => if b = true then te σ2 H3 (CPost Pv acc xs.length i σ2) else CSkip Pv xs.length i σ2 H3)
    (hd : ∀ ys σ H, Pv xs.length ys σ H → Q H) : CompW (Ite K a) g tt te acc σ0 H0 Q := by
  refine ⟨fun i m σ H => m = xs.length - i ∧ i ≤ xs.length ∧ ∃ ys, Pv i ys σ H, ⟨xs.length, by simp, Nat.zero_le _, [], h0⟩, ?_⟩
  rintro i m σ H ⟨rfl, hi, ys, p⟩
  have q := hl i ys σ H p
  by_cases hlt : i < xs.length
  · refine .inr ⟨⟨xs, xs[i], SqL.of q, by simp [hlt]⟩, fun x H1 y => ?_⟩
    obtain ⟨y, T, hy, rfl, hT, rfl⟩ := y
    have := hs i ys y σ H T (hy xs (SqL.of q)) hlt p hT
    unfold CPost CSkip at this
    exact this
  · obtain rfl : i = xs.length := by omega
    exact .inl ⟨⟨xs, SqL.of q, Nat.le_refl _⟩, hd ys σ H p⟩
end L3

namespace L3
open PySem PySem.Spec PyProof.Rows L2
theorem vals_of : ∀ {xs : List V} {us : List Value}, xs.length = us.length → (∀ (j : Nat) x u, xs[j]? = some x → us[j]? = some u → RelV x u) → Vals xs us
  | [], [], _, _ => .nil
  | x :: xs, u :: us, h, f => .cons (f 0 x u rfl rfl) (vals_of (by simpa using h) fun j y v h1 h2 => f (j + 1) y v (by simpa using h1) (by simpa using h2))
  | [], _ :: _, h, _ => by simp at h
  | _ :: _, [], h, _ => by simp at h
theorem keyRel {k : Key} {v : Value} (h : keyIs k v = true) : RelV (kV k) v := by
  rcases keyIs_shape h with ⟨i, t, rfl, rfl⟩ | ⟨x, t, rfl, rfl⟩
  · exact ⟨t, rfl⟩
  · exact ⟨t, rfl⟩
/-- list(d): its keys -/
def rListD : List V → Hp → VK → Prop := fun xs H Q => ∃ d kvs, xs = [.ref d] ∧ Rd H d (.dK kvs) ∧ New H (.lst (kvs.map fun kv => kV kv.1)) Q
section
variable {X : Cx}
theorem call_listD (hc : X.calm = true) : CallR X (.type "list") rListD := by
  intro pins s σ H xs us Q I rv h
  obtain ⟨d, kvs, rfl, e, q⟩ := h
  obtain ⟨u, rfl, ru⟩ := vals1 rv
  cases ru
  obtain ⟨z, hd, vs, rel, o, es, ep, h1, h2, h3, h4, h5, h6⟩ := dk_rd I.hok e
  have hlen : kvs.length = vs.length := Paired.length rel
  refine PySem.W.kdl_call (PySem.W.kdl_dict (knd := mixKind X.prog X.w) (kvs := vs) (ep := ep) hd) (I.ok.hd hc) ⟨o, es, h1, h2, h3, h4, h5, h6⟩ (by omega) fun h' tk acc c hk hS hacc => ?_
  refine ⟨.ref s.heap.objs.size, upd H s.heap.objs.size (.lst (kvs.map fun kv => kV kv.1)), I.laid (t' := tk) hk (Nat.le_refl _) ?_, rfl, q.at I.fresh⟩
  have h9 : acc.toList.length = vs.length := by simpa using hacc.1
  refine ⟨by rw [List.length_map]; exact z, acc.toList, c, vals_of (by rw [List.length_map]; omega) fun j x v e1 e2 => ?_, ?_⟩
  · rw [List.getElem?_map] at e1
    obtain ⟨kv, hkv, rfl⟩ := Option.map_eq_some_iff.mp e1
    rw [Array.getElem?_toList] at e2
    obtain ⟨k, y, h7, h8⟩ := hacc.2 j v e2
    have hke : kv.1 = k := by
      have : ∀ {kvs : List (Key × V)} {vs : List (Key × Value)}, KV kvs vs → ∀ (j : Nat) kv k y, kvs[j]? = some kv → vs[j]? = some (k, y) → kv.1 = k := by
        intro kvs vs r
        unfold KV at r
        induction r with
        | nil => intro j kv k y e; simp at e
        | @cons p q ps qs h t ih =>
          intro j kv k y e1 e2
          cases j with
          | zero => simp at e1 e2; subst e1; rw [h.1, e2]
          | succ j => exact ih j kv k y (by simpa using e1) (by simpa using e2)
      exact this rel j kv k y hkv h7
    subst hke
    exact keyRel h8
  · rw [Array.toArray_toList]; exact hS
theorem fListD (hc : X.calm = true := by rfl) : RCall X (.type "list") rListD := .mk (call_listD hc)
end
end L3

/-! for x, y in zip(xs, ys); len of a dict -/
namespace L3
open PySem PySem.Spec PyProof.Rows L2
def Itz (K : PySem.W.Frag) (a b : Addr) : It :=
  ⟨fun i H => ∃ xs ys x y, SqL K H a xs ∧ SqL K H b ys ∧ xs[i]? = some x ∧ ys[i]? = some y, fun i H v H' => ∃ x y T, (∀ xs, SqL K H a xs → xs[i]? = some x) ∧ (∀ ys, SqL K H b ys → ys[i]? = some y) ∧ v = .ref T ∧ H T = none ∧ H' = upd H T (.tup [x, y]), fun i H => ∃ xs ys, SqL K H a xs ∧ SqL K H b ys ∧ (xs.length ≤ i ∨ ys.length ≤ i)⟩
theorem zip_apart {h : Heap} {z TI TO i1 i2 l1 l2 : Addr} {f0 a b : Value} {k1 k2 : Nat} {xs ys : Array Value} (hTT : TI ≠ TO) (h12 : i1 ≠ i2) (hz : IsZip h z TI TO f0) (hTI : IsPair h TI (.ref i1) (.ref i2)) (hTO : IsPair h TO a b) (h1 : h.IsListIter i1 l1 k1) (h2 : h.IsListIter i2 l2 k2) (hl1 : h.IsList l1 xs) (hl2 : h.IsList l2 ys) : ZipApart z TI TO i1 i2 l1 l2 := by
  have ne : ∀ {c d : Addr} {o o' : Obj} {n m : String}, h.get? c = some o → h.get? d = some o' → o.cls = .type n → o'.cls = .type m → n ≠ m → c ≠ d := by
    intro c d o o' n m e1 e2 k1 k2 hnm zz
    subst zz
    rw [e1] at e2
    cases e2
    rw [k1] at k2
    cases k2
    exact hnm rfl
  obtain ⟨o1, e1, c1, d1⟩ := h1
  obtain ⟨o2, e2, c2, d2⟩ := h2
  obtain ⟨q1, g1, k1, m1⟩ := hl1
  obtain ⟨q2, g2, k2, m2⟩ := hl2
  exact ⟨ne hTI hz rfl rfl (by decide), ne hTO hz rfl rfl (by decide), ne e1 hz c1 rfl (by decide), ne e2 hz c2 rfl (by decide), hTT, ne hTI e1 rfl c1 (by decide), ne hTI e2 rfl c2 (by decide), ne hTO e1 rfl c1 (by decide), ne hTO e2 rfl c2 (by decide), h12,
    ne g1 hz k1 rfl (by decide), ne g1 hTO k1 rfl (by decide), ne g1 e1 k1 c1 (by decide), ne g1 e2 k1 c2 (by decide), ne g2 hz k2 rfl (by decide), ne g2 hTO k2 rfl (by decide), ne g2 e1 k2 c1 (by decide), ne g2 e2 k2 c2 (by decide)⟩
theorem turn_zip {P : Program} {w : World} {K : PySem.W.Frag} {elts : List Expr} {kk : Nat} {tp : Pos} (a b z TI TO i1 i2 : Addr) (hTT : TI ≠ TO) (h12 : i1 ≠ i2) : Turn P w K (.Tuple elts kk tp) (Itz K a b) [z, TI, TO, i1, i2] z (fun i h => IsZip h z TI TO .none ∧ IsPair h TI (.ref i1) (.ref i2) ∧ (∃ u v, IsPair h TO u v) ∧ h.IsListIter i1 a i ∧ h.IsListIter i2 b i) where
  mem := by simp
  obj := fun i h st c hc => by
    obtain ⟨hz, hTI, ⟨u, v, hTO⟩, ⟨o1, e1, c1, d1⟩, o2, e2, c2, d2⟩ := st
    simp only [List.mem_cons, List.not_mem_nil, or_false] at hc
    rcases hc with rfl | rfl | rfl | rfl | rfl
    · exact ⟨_, hz, fun v z => by cases z⟩
    · exact ⟨_, hTI, fun v z => by cases z⟩
    · exact ⟨_, hTO, fun v z => by cases z⟩
    · exact ⟨o1, e1, fun v z => by rw [d1] at z; cases z⟩
    · exact ⟨o2, e2, fun v z => by rw [d2] at z; cases z⟩
  keep := fun i h h' st k => by
    obtain ⟨hz, hTI, ⟨u, v, hTO⟩, h1, h2⟩ := st
    exact ⟨k z (by simp) _ hz, k TI (by simp) _ hTI, ⟨u, v, k TO (by simp) _ hTO⟩, h1.at fun o x => k i1 (by simp) o x, h2.at fun o x => k i2 (by simp) o x⟩
  item := by
    intro X hP hw hK hc i pins s σ H E I hf st hg
    subst hP hw hK
    obtain ⟨xs, ys, x, y, hq1, hq2, hx, hy⟩ := hg
    obtain ⟨its1, rv1, p1, hz1⟩ := I.list hq1
    obtain ⟨its2, rv2, p2, hz2⟩ := I.list hq2
    obtain ⟨u, hu, ru⟩ := rv1.get hx
    obtain ⟨u', hu', ru'⟩ := rv2.get hy
    obtain ⟨hz, hTI, ⟨t1, t2, hTO⟩, h1, h2⟩ := st
    have D := zip_apart hTT h12 hz hTI hTO h1 h2 p1.isList p2.isList
    have lz : z < s.heap.objs.size := Heap.lt_size hz
    have lTI : TI < s.heap.objs.size := Heap.lt_size hTI
    have lTO : TO < s.heap.objs.size := Heap.lt_size hTO
    have l1 : i1 < s.heap.objs.size := by obtain ⟨_, y, _⟩ := h1; exact Heap.lt_size y
    have l2 : i2 < s.heap.objs.size := by obtain ⟨_, y, _⟩ := h2; exact Heap.lt_size y
    refine wpAny_pyNext_zip_item D hz hTI hTO h1 h2 p1.isList p2.isList (x := u) (y := u') (by simpa using hu) (by simpa using hu') fun h' a1 a2 a3 a4 a5 a6 hk => ?_
    refine ⟨_, rfl, ?_⟩
    refine wpAny_letOwnedTupleGo_zip (s := { s with heap := h' }) a1 fun h3 hz3 hs3 => ?_
    have hfr : H s.heap.objs.size = none := I.hok.fresh (Nat.le_refl _)
    have I1 : Inv X pins σ (upd H s.heap.objs.size (.tup [x, y])) { s with heap := s.heap.push { cls := .type "tuple", data := .seq #[u, u'] }, toks := s.toks } :=
      I.laid (t' := s.toks) (o := .tup [x, y]) (fun b o q => Heap.get?_push_of_some _ q) (Nat.le_refl _) ⟨(show 2 ≤ sizeLine by decide), [u, u'], .cons ru (.cons ru' .nil), IsTup.new _ _⟩
    have hT3 : h3.get? s.heap.objs.size = some { cls := .type "tuple", data := .seq #[u, u'] } := (hs3.2 _ (Nat.ne_of_gt lz)).trans a5
    have I3 : Inv X pins σ (upd H s.heap.objs.size (.tup [x, y])) { s with heap := h3, toks := s.toks } := by
      refine L2.Inv.turnedL (s := { s with heap := s.heap.push { cls := .type "tuple", data := .seq #[u, u'] }, toks := s.toks }) (its := [z, TI, TO, i1, i2]) (t' := s.toks) (h' := h3) I1 (fun c o hc q => ?_) (fun c hc => ?_)
      · simp only [List.mem_cons, List.not_mem_nil, or_false, not_or] at hc
        rcases Nat.lt_or_ge c s.heap.objs.size with hlt | hge
        · have q' : s.heap.get? c = some o := by
            rw [Heap.get?_push_ne _ _ _ (Nat.ne_of_lt hlt)] at q; exact q
          exact (hs3.2 c hc.1).trans (hk c o hc.1 hc.2.2.1 hc.2.2.2.1 hc.2.2.2.2 q')
        · have hlt2 := Heap.lt_size q
          rw [Heap.size_push] at hlt2
          have hbe : c = s.heap.objs.size := Nat.le_antisymm (Nat.le_of_lt_succ hlt2) hge
          subst hbe
          rw [Heap.get?_push_size _ rfl] at q
          cases q
          exact hT3
      · have hfc := hf c hc
        simp only [List.mem_cons, List.not_mem_nil, or_false] at hc
        rcases hc with rfl | rfl | rfl | rfl | rfl
        · exact fpOk_upd hfc (Nat.ne_of_lt lz)
        · exact fpOk_upd hfc (Nat.ne_of_lt lTI)
        · exact fpOk_upd hfc (Nat.ne_of_lt lTO)
        · exact fpOk_upd hfc (Nat.ne_of_lt l1)
        · exact fpOk_upd hfc (Nat.ne_of_lt l2)
    have up : ∀ c o, c ≠ z → h'.get? c = some o → h3.get? c = some o := fun c o hc e => (hs3.2 c hc).trans e
    refine ⟨.ref s.heap.objs.size, _, I3, rfl, ⟨x, y, _, fun ws hw => by rw [I.list_inj hw hq1]; exact hx, fun ws hw => by rw [I.list_inj hw hq2]; exact hy, rfl, hfr, rfl⟩, ⟨hz3, up _ _ D.TIz (hk _ _ D.TIz D.TITO D.TIi1 D.TIi2 hTI), ⟨_, _, up _ _ D.TOz a2⟩, a3.at fun o e => up _ o D.i1z e, a4.at fun o e => up _ o D.i2z e⟩, fun c hc => ?_⟩
    have hfc := hf c hc
    simp only [List.mem_cons, List.not_mem_nil, or_false] at hc
    rcases hc with rfl | rfl | rfl | rfl | rfl
    · rw [upd_ne (Nat.ne_of_lt lz)]; exact hfc.1
    · rw [upd_ne (Nat.ne_of_lt lTI)]; exact hfc.1
    · rw [upd_ne (Nat.ne_of_lt lTO)]; exact hfc.1
    · rw [upd_ne (Nat.ne_of_lt l1)]; exact hfc.1
    · rw [upd_ne (Nat.ne_of_lt l2)]; exact hfc.1
  done := by
    intro X hP hw hK hc i pins s σ H E I hf st hg
    subst hP hw hK
    obtain ⟨xs, ys, hq1, hq2, hx⟩ := hg
    obtain ⟨its1, rv1, p1, hz1⟩ := I.list hq1
    obtain ⟨its2, rv2, p2, hz2⟩ := I.list hq2
    obtain ⟨hz, hTI, ⟨t1, t2, hTO⟩, h1, h2⟩ := st
    have D := zip_apart hTT h12 hz hTI hTO h1 h2 p1.isList p2.isList
    have hl1 := rv1.length
    have hl2 := rv2.length
    refine wpAny_pyNext_zip_end (I.ok.hd hc) D hz hTI hTO h1 h2 p1.isList p2.isList (by simp; omega) fun h' eb => ⟨rfl, ?_⟩
    exact I.turnedL (its := [z, TI, TO, i1, i2]) (t' := s.toks) (fun c o hc q => eb c o (fun z => hc (by simp [z])) (fun z => hc (by simp [z])) (fun z => hc (by simp [z])) (fun z => hc (by simp [z])) q) hf
  self := fun _ _ _ _ _ st h => wpAny_pyIter_zip st.1 h
section
variable {X : Cx}
def iZip (ta : TA) (K : PySem.W.Frag) : TI := fun σ H R => ta σ H fun vs H1 => ∃ a b xs ys, vs = [.ref a, .ref b] ∧ H1 a = some (.lst xs) ∧ H1 b = some (.lst ys) ∧ R (Itz K a b) H1
theorem bt_zip' : bootBuiltins "zip" = some (.type "zip") := by decide +kernel
theorem pi_zip {elts : List Expr} {kk : Nat} {tp : Pos} {a b : Expr} {ta : TA} {p pos : Pos} (hg : Gl X "zip") (hm : X.mg "zip" = none) (ha : PA X [a, b] ta) (hs : starEach [a, b] X.env = [(false, eval a X.env), (false, eval b X.env)]) (hs2 : starEach [b] X.env = [(false, eval b X.env)]) : PI X (.Tuple elts kk tp) (.Call (.Name "zip" p) [a, b] [] pos) (iZip ta X.K) := by
  intro pins s σ H R I h
  refine Call_ (ld_blt I hg hm bt_zip' (PyProof.Rows.callWith_type1 (thn (ha pos pins s σ H _ I h) fun us s1 ⟨vs, H1, I1, r1, q1⟩ => ?_) (by rw [hs, hs2]) (by rw [hs2]; rfl)))
  obtain ⟨l1, l2, xs, ys, e, hl1, hl2, q⟩ := q1
  subst e
  cases r1 with
  | cons r rr =>
    cases rr with
    | cons r' rr =>
      cases rr
      cases r
      cases r'
      obtain ⟨z1, its1, n1, rv1, ho1⟩ := I1.hok l1 _ hl1
      obtain ⟨z2, its2, n2, rv2, ho2⟩ := I1.hok l2 _ hl2
      refine call_zip_2 (xs := its1.toArray) (ys := its2.toArray) ⟨_, ho1, rfl, _, rfl⟩ ⟨_, ho2, rfl, _, rfl⟩ fun h' hz hTI hTO hi1 hi2 hsz hk => ?_
      refine wpAny_pyIter_zip hz ?_
      have I2 : Inv X pins σ H1 { s1 with heap := h' } := I1.kept (t' := s1.toks) hk
      refine ⟨s1.heap.objs.size + 4, [s1.heap.objs.size + 4, s1.heap.objs.size + 2, s1.heap.objs.size + 3, s1.heap.objs.size, s1.heap.objs.size + 1], _, _, H1, rfl, I2, turn_zip l1 l2 _ _ _ _ _ (Nat.ne_of_lt (Nat.lt_succ_self _)) (Nat.ne_of_lt (Nat.lt_succ_self _)), ⟨hz, hTI, ⟨_, _, hTO⟩, hi1, hi2⟩, fun c hc => ?_, q⟩
      have hge : s1.heap.objs.size ≤ c := by
        simp only [List.mem_cons, List.not_mem_nil, or_false] at hc
        rcases hc with rfl | rfl | rfl | rfl | rfl <;> first | exact Nat.le_refl _ | exact Nat.le_add_right _ _
      exact I1.fpOk hge (I1.hok.fresh hge)
theorem izip {elts : List Expr} {kk : Nat} {tp : Pos} {a b : Expr} {ta : TA} {p pos : Pos} (K : PySem.W.Frag) (hg : Gl X "zip") (hm : X.mg "zip" = none) (ha : QA X [a, b] ta) (h : notStar a = true := by rfl) (h' : notStar b = true := by rfl) (hK : X.K = K := by rfl) : QI X (.Tuple elts kk tp) (.Call (.Name "zip" p) [a, b] [] pos) (iZip ta K) := by
  subst hK
  exact .mk (pi_zip hg hm ha.un (by rw [star_cons h, star_cons h', star_nil]) (by rw [star_cons h', star_nil]))
theorem comp_zip {K : PySem.W.Frag} {a b : Addr} {xs ys : List V} {g : TG} {tt : TT} {te : TE} {acc : Addr} {σ0 : L2.St} {H0 : Hp} {Q : Hp → Prop} (hxy : xs.length = ys.length) (Pv : Nat → List V → L2.St → Hp → Prop) (h0 : Pv 0 [] σ0 H0) (hl : ∀ i zs σ H, Pv i zs σ H → H a = some (.lst xs) ∧ H b = some (.lst ys))
    (hs : ∀ i zs x y σ H T, xs[i]? = some x → ys[i]? = some y → i < xs.length → Pv i zs σ H → H T = none → g (.ref T) σ (upd H T (.tup [x, y])) fun σ2 H2 => tt σ2 H2 fun b H3 => if b = true then te σ2 H3 (CPost Pv acc xs.length i σ2) else CSkip Pv xs.length i σ2 H3)
    (hd : ∀ zs σ H, Pv xs.length zs σ H → Q H) : CompW (Itz K a b) g tt te acc σ0 H0 Q := by
  refine ⟨fun i m σ H => m = xs.length - i ∧ i ≤ xs.length ∧ ∃ ys, Pv i ys σ H, ⟨xs.length, by simp, Nat.zero_le _, [], h0⟩, ?_⟩
  rintro i m σ H ⟨rfl, hi, zs, p⟩
  obtain ⟨q1, q2⟩ := hl i zs σ H p
  by_cases hlt : i < xs.length
  · have hlt' : i < ys.length := by omega
    refine .inr ⟨⟨xs, ys, xs[i], ys[i], SqL.of q1, SqL.of q2, by simp [hlt], by simp [hlt']⟩, fun x H1 y => ?_⟩
    obtain ⟨x, y, T, hx, hy, rfl, hT, rfl⟩ := y
    have := hs i zs x y σ H T (hx xs (SqL.of q1)) (hy ys (SqL.of q2)) hlt p hT
    unfold CPost CSkip at this
    exact this
  · obtain rfl : i = xs.length := by omega
    exact .inl ⟨⟨xs, ys, SqL.of q1, SqL.of q2, .inl (Nat.le_refl _)⟩, hd zs σ H p⟩
/-- len(d) -/
def rLenD : List V → Hp → VK → Prop := fun xs H Q => ∃ d kvs, xs = [.ref d] ∧ Rd H d (.dK kvs) ∧ Q (.int kvs.length) H
theorem call_lenD : CallR X (.builtin "len") rLenD := by
  intro pins s σ H xs us Q I rv h
  obtain ⟨d, kvs, rfl, e, q⟩ := h
  obtain ⟨u, rfl, ru⟩ := vals1 rv
  cases ru
  obtain ⟨z, hd, vs, rel, o, es, ep, h1, h2, h3, h4, h5, h6⟩ := dk_rd I.hok e
  have hlen : kvs.length = vs.length := Paired.length rel
  refine call_len_dict (knd := mixKind X.prog X.w) (kvs := vs) hd ⟨o, es, ep, h1, h2, h3, h4, h5, h6⟩ ?_ ?_
  · rw [← hlen]; exact Int.lt_of_le_of_lt (Int.ofNat_le.mpr z) (by decide)
  · refine ⟨.int kvs.length, H, I.kept (t' := s.toks + 1 + 1) (fun _ _ e => e), ⟨s.toks + 1, ?_⟩, q⟩
    rw [hlen]
theorem fLenD : RCall X (.builtin "len") rLenD := .mk call_lenD
end
end L3

/-! any of a list of bools; for x, y in zip(a, b) of tuples; the shorter one ends it -/
namespace L3
open PySem PySem.Spec PyProof.Rows L2
section
variable {X : Cx}
def rAnyB (K : PySem.W.Frag) : List V → Hp → VK → Prop := fun xs H Q => ∃ (p : Addr) (bs : List Bool), xs = [.ref p] ∧ SqL K H p (bs.map V.bl) ∧ Q (.bl (bs.any id)) H
theorem any_range : ∀ (bs : List Bool), (List.range bs.length).any (fun i => bs.getD i true) = bs.any id
  | [] => rfl
  | b :: r => by
    rw [List.length_cons, List.range_succ_eq_map, List.any_cons, List.any_map, List.any_cons]
    have := any_range r
    congr 1
theorem call_anyB (hc : X.calm = true) : CallR X (.builtin "any") (rAnyB X.K) := by
  intro pins s σ H xs us Q I rv h
  obtain ⟨p, bs, rfl, hp, q⟩ := h
  obtain ⟨u, rfl, ru⟩ := vals1 rv
  cases ru
  obtain ⟨its, r, pl, hz⟩ := I.list hp
  have hlen := r.length
  rw [List.length_map] at hlen
  have hlt : p < s.heap.objs.size := by obtain ⟨_, e, _⟩ := pl.isList; exact Heap.lt_size e
  refine call_any_walk (wpAny_pyIter_list pl.isList ?_)
  refine ⟨s.heap.objs.size, _, _, _, _, _, fun i => bs.getD i true, rfl, Walks.list (A := X.A.in1) (I.ok.hd hc) _ p (Nat.ne_of_lt hlt) its.toArray, ⟨⟨_, Heap.get?_push_size _ rfl, rfl, rfl⟩, pl.isList.push _⟩, ?_, fun h' tk hk => ?_⟩
  · intro i v s' Q' E' hP hQ
    have hP : its[i]? = some v := by simpa using hP
    have hi : i < its.length := (List.getElem?_eq_some_iff.mp hP).1
    have e1 : (bs.map V.bl)[i]? = some (V.bl (bs[i]'(by omega))) := by
      rw [List.getElem?_map, List.getElem?_eq_getElem (by omega)]; rfl
    obtain ⟨u, hu, ru⟩ := r.get e1
    rw [hP] at hu
    cases hu
    cases (show v = Value.bool _ from ru)
    refine wpAny_truthy_bool ?_
    have e2 : bs.getD i true = bs[i]'(by omega) := by rw [List.getD_eq_getElem?_getD, List.getElem?_eq_getElem (by omega)]; rfl
    rw [← e2]; exact hQ
  · refine ⟨.bl (bs.any id), H, ?_, ?_, q⟩
    · exact I.kept (t' := tk) fun b o e => hk b o (by simp; exact Nat.ne_of_lt (Heap.lt_size e)) (Heap.get?_push_of_some _ e)
    · show Value.bool _ = Value.bool _
      rw [List.size_toArray, ← hlen, any_range]
theorem bt_any : bootBuiltins "any" = some (.builtin "any") := by decide +kernel
theorem fAny (K : PySem.W.Frag) (hc : X.calm = true := by rfl) (hK : X.K = K := by rfl) : RCall X (.builtin "any") (rAnyB K) := by subst hK; exact .mk (call_anyB hc)
/-! ### shifts and masks -/
theorem rShl : ROp X (binaryOp .LShift) (rI CPow fun i j => .int (i * 2 ^ j.toNat)) := .mk op_shl
theorem rShr : ROp X (binaryOp .RShift) (rI (fun _ j => 0 ≤ j) fun i j => .int (i / 2 ^ j.toNat)) := .mk op_shr
theorem rAnd1 : ROp X (binaryOp .BitAnd) (rI0 fun i j => .int (Builtin.bitAnd i j)) := .mk op_and
end
/-! ### what an iterator is asked within zip -/
section
variable {prog : Program} {w : World} {A : Around} {E : Value → Shared → Prop} {s : Shared}
/-- a tuple's iterator at k, and the tuple -/
def TAt (h : Heap) (i l : Addr) (xs : Array Value) (k : Nat) : Prop := h.IsTupleIter i l k ∧ h.IsTuple l xs
theorem TAt.but {h h' : Heap} {i l b : Addr} {xs : Array Value} {k : Nat} (x : TAt h i l xs k) (e : Heap.ExtBut b h h') (h1 : i ≠ b) (h2 : l ≠ b) : TAt h' i l xs k := ⟨x.1.extBut e h1, x.2.extBut e h2⟩
theorem ask_tup {i l : Addr} {xs : Array Value} {k : Nat} {x : Value} {Q : Value → Shared → Prop} (hi : TAt s.heap i l xs k) (hil : l ≠ i) (hx : xs[k]? = some x)
    (hQ : ∀ h', TAt h' i l xs (k + 1) → Heap.SameBut i s.heap h' → Q x { s with heap := h' }) : wpAny (model prog w) A (Builtin.SmallTypes.nextOf (.ref i)) Q E s := by
  obtain ⟨hit, ht⟩ := id hi
  obtain ⟨o, ho, hc, hd⟩ := id hit
  obtain ⟨ol, hol, _, nl, hdl⟩ := id ht
  unfold Builtin.SmallTypes.nextOf
  refine wpAny_bind (wpAny_callSpecial?_slot (name := Str.ofString "__next__") hit.typeIs F.slot_tuple_iterator_next (wpAny_call_entry F.slot_tuple_iterator_next hit.typeIs F.entry_tuple_iterator_next ?_ (F.args_tuple_iterator_next_1 _)))
  refine wpAny_bind (m := field (.ref i) 0) (wpAny_field ho hd (x := .ref l) rfl ?_)
  refine wpAny_bind (m := field (.ref i) 1) (wpAny_field ho hd (x := .int k 0) rfl ?_)
  refine wpAny_bind (m := seqItems? (.ref l)) (wpAny_seqItems hol hdl ?_)
  simp only [Int.toNat_natCast, hx]
  refine wpAny_bind (wpAny_setField ho hd (by simp) (wpAny_pure ⟨x, rfl, wpAny_pure (hQ _ ⟨?_, ht.extBut (Heap.SameBut.update ..).extBut hil⟩ (Heap.SameBut.update ..))⟩))
  exact ⟨_, Heap.get?_update_self _ ho (Obj.isFreed_of_fields (Obj.data_mapFields hd _)), (Obj.cls_mapFields ..).trans hc, by rw [Obj.data_mapFields hd]; simp [rawInt]⟩
theorem ask_tup_end {i l : Addr} {xs : Array Value} {k : Nat} {Q : Value → Shared → Prop} (hh : A.handled = none) (hi : TAt s.heap i l xs k) (hx : xs[k]? = none)
    (hE : ∀ h' e, Heap.ExtBut i s.heap h' → (∃ o, h'.get? e = some o ∧ o.cls = .type "StopIteration") → E (.ref e) { s with heap := h' }) : wpAny (model prog w) A (Builtin.SmallTypes.nextOf (.ref i)) Q E s := by
  obtain ⟨hit, ht⟩ := id hi
  obtain ⟨o, ho, hc, hd⟩ := id hit
  obtain ⟨ol, hol, _, nl, hdl⟩ := id ht
  unfold Builtin.SmallTypes.nextOf
  refine wpAny_bind (wpAny_callSpecial?_slot (name := Str.ofString "__next__") hit.typeIs F.slot_tuple_iterator_next (wpAny_call_entry F.slot_tuple_iterator_next hit.typeIs F.entry_tuple_iterator_next ?_ (F.args_tuple_iterator_next_1 _)))
  refine wpAny_bind (m := field (.ref i) 0) (wpAny_field ho hd (x := .ref l) rfl ?_)
  refine wpAny_bind (m := field (.ref i) 1) (wpAny_field ho hd (x := .int k 0) rfl ?_)
  refine wpAny_bind (m := seqItems? (.ref l)) (wpAny_seqItems hol hdl ?_)
  simp only [Int.toNat_natCast, hx]
  refine wpAny_bind (wpAny_rule (wpAny_bind (wpAny_setField ho hd (by simp) ?_)))
  refine wpAny_bind (m := newExc (.type "StopIteration") []) ?_
  simp only [newExc, newTuple]
  refine wpAny_bind (wpAny_newObj_type ?_ (by size_fits))
  refine wpAny_bind (m := firstArgMember _ _) (wpAny_of_eq (a := Value.none) (by first | rfl | (simp only [firstArgMember]; rfl)) ?_)
  refine wpAny_newObj_type ?_ (by size_fits)
  simp only [raiseNew]
  refine wpAny_bind (wpAny_handled ?_)
  first | rw [show A.in1.handled = none from hh] | rw [hh]
  exact wpAny_bind (wpAny_pure (wpAny_throw (hE _ _ (((Heap.SameBut.update ..).extBut.push _).push _) ⟨_, Heap.get?_push_size _ rfl, rfl⟩)))
end
end L3

/-! zip of two tuples: what it hands out, how it ends -/
namespace L3
open PySem PySem.Spec PyProof.Rows L2
section
variable {prog : Program} {w : World} {A : Around} {E : Value → Shared → Prop} {s : Shared}
theorem zipT_item {z TI TO i1 i2 l1 l2 : Addr} {k1 k2 : Nat} {xs ys : Array Value} {x y a b : Value} {Q : Value → Shared → Prop} (D : ZipApart z TI TO i1 i2 l1 l2)
    (hz : IsZip s.heap z TI TO .none) (hTI : IsPair s.heap TI (.ref i1) (.ref i2)) (hTO : IsPair s.heap TO a b) (h1 : TAt s.heap i1 l1 xs k1) (h2 : TAt s.heap i2 l2 ys k2) (hx : xs[k1]? = some x) (hy : ys[k2]? = some y)
    (hQ : ∀ h', IsZip h' z TI TO (rawInt s.heap.objs.size) → IsPair h' TO x y → TAt h' i1 l1 xs (k1 + 1) → TAt h' i2 l2 ys (k2 + 1) → IsPair h' s.heap.objs.size x y → h'.objs.size = s.heap.objs.size + 1 →
      (∀ c o, c ≠ z → c ≠ TO → c ≠ i1 → c ≠ i2 → s.heap.get? c = some o → h'.get? c = some o) → Q (.ref s.heap.objs.size) { s with heap := h' }) :
    wpAny (model prog w) A (Builtin.«zip.__next__» ⟨[.ref z], []⟩) (fun fin s' => ∃ v, fin = .done (.ret v) ∧ Q v s') E s := by
  refine wpAny_bind (m := field (.ref z) 2) (wpAny_field hz rfl (x := .bool false) rfl ?_)
  refine wpAny_bind (m := field (.ref z) 3) (wpAny_field hz rfl (x := .ref TI) rfl ?_)
  refine wpAny_bind (wpAny_seqItems hTI rfl ?_)
  refine wpAny_bind (m := Builtin.SmallTypes.ownedTupleIsFree (.ref z)) ?_
  unfold Builtin.SmallTypes.ownedTupleIsFree
  refine wpAny_bind (wpAny_field hz rfl (x := .none) rfl (wpAny_pure ?_))
  simp only [if_true]
  refine wpAny_bind (wpAny_rule ?_)
  refine wpAny_bind (wpAny_field hz rfl (x := .ref TO) rfl ?_)
  refine wpAny_bind (wpAny_setField_rec hz (by simp) fun g1 z1 e1 => ?_)
  refine wpAny_bind ?_
  simp only [List.zipIdx_cons, List.zipIdx_nil, List.forIn_cons, List.forIn_nil]
  -- the first
  refine wpAny_bind (wpAny_bind (wpAny_onRaise ?_))
  refine wpAny_bind (m := Builtin.SmallTypes.nextOf (.ref i1)) (ask_tup (h1.but e1.extBut D.i1z D.l1z) D.l1i1 hx fun g2 a2 e2 => wpAny_pure ?_)
  have t2 : IsPair g2 TO a b := e2.extBut _ _ D.TOi1 (e1.extBut _ _ D.TOz hTO)
  refine wpAny_bind (wpAny_seqItems t2 rfl ?_)
  refine wpAny_bind (wpAny_updateSeq_pair t2 fun g3 t3 e3 => ?_)
  replace t3 : IsPair g3 TO x b := t3
  refine wpAny_bind (wpAny_letGo (wpAny_pure ?_))
  -- the second
  refine wpAny_bind (wpAny_bind (wpAny_onRaise ?_))
  refine wpAny_bind (m := Builtin.SmallTypes.nextOf (.ref i2)) (ask_tup (((h2.but e1.extBut D.i2z D.l2z).but e2.extBut D.i12.symm D.l2i1).but e3.extBut D.TOi2.symm D.l2TO) D.l2i2 hy fun g4 a4 e4 => wpAny_pure ?_)
  have t4 : IsPair g4 TO x b := e4.extBut _ _ D.TOi2 t3
  refine wpAny_bind (wpAny_seqItems t4 rfl ?_)
  refine wpAny_bind (wpAny_updateSeq_pair t4 fun g5 t5 e5 => ?_)
  replace t5 : IsPair g5 TO x y := t5
  refine wpAny_bind (wpAny_letGo (wpAny_pure (wpAny_pure ?_)))
  -- its own tuple is handed out
  refine wpAny_bind (wpAny_seqItems t5 rfl ?_)
  refine wpAny_bind (wpAny_newTuple ?_)
  have sz : g5.objs.size = s.heap.objs.size := by rw [e5.1, e4.1, e3.1, e2.1, e1.1]
  have z5 : IsZip g5 z TI TO .ellipsis := e5.extBut _ _ D.TOz.symm (e4.extBut _ _ D.i2z.symm (e3.extBut _ _ D.TOz.symm (e2.extBut _ _ D.i1z.symm z1)))
  have k5 : ∀ c o, c ≠ z → c ≠ TO → c ≠ i1 → c ≠ i2 → s.heap.get? c = some o → g5.get? c = some o := fun c o c1 c2 c3 c4 e => e5.extBut _ _ c2 (e4.extBut _ _ c4 (e3.extBut _ _ c2 (e2.extBut _ _ c3 (e1.extBut _ _ c1 e))))
  have a5 : TAt g5 i1 l1 xs (k1 + 1) := ((a2.but e3.extBut D.TOi1.symm D.l1TO).but e4.extBut D.i12 D.l1i2).but e5.extBut D.TOi1.symm D.l1TO
  have b5 : TAt g5 i2 l2 ys (k2 + 1) := a4.but e5.extBut D.TOi2.symm D.l2TO
  have zlt : z < g5.objs.size := Heap.lt_size z5
  refine wpAny_bind (m := Builtin.SmallTypes.ownedTupleHandOut (.ref z) (.ref g5.objs.size)) ?_
  unfold Builtin.SmallTypes.ownedTupleHandOut
  have z6 : IsZip (g5.push { cls := .type "tuple", data := .seq #[x, y] }) z TI TO .ellipsis := Heap.get?_push_of_some _ z5
  refine wpAny_bind (wpAny_setField_rec z6 (by simp) fun g7 z7 e7 => ?_)
  replace z7 : IsZip g7 z TI TO (rawInt g5.objs.size) := z7
  refine wpAny_setField_rec z7 (by simp) fun g8 z8 e8 => ?_
  replace z8 : IsZip g8 z TI TO (rawInt g5.objs.size) := z8
  have up : Heap.ExtBut z g5 g8 := fun c o c1 e => e8.extBut _ _ c1 (e7.extBut _ _ c1 (Heap.get?_push_of_some _ e))
  have t8 : IsPair g8 g5.objs.size x y := e8.extBut _ _ (Nat.ne_of_gt zlt) (e7.extBut _ _ (Nat.ne_of_gt zlt) (Heap.get?_push_size _ rfl))
  have s8 : g8.objs.size = g5.objs.size + 1 := by rw [e8.1, e7.1, Heap.size_push]
  rw [sz] at z8 t8 s8
  refine wpAny_pure ⟨_, rfl, ?_⟩
  show Q (.ref g5.objs.size) _
  rw [sz]
  exact hQ g8 z8 (up _ _ D.TOz t5) (a5.but up D.i1z D.l1z) (b5.but up D.i2z D.l2z) t8 s8 fun c o c1 c2 c3 c4 e => up c o c1 (k5 c o c1 c2 c3 c4 e)
theorem zipT_end {z TI TO i1 i2 l1 l2 : Addr} {k1 k2 : Nat} {xs ys : Array Value} {a b : Value} {Q : Fin → Shared → Prop} (hh : A.handled = none) (D : ZipApart z TI TO i1 i2 l1 l2)
    (hz : IsZip s.heap z TI TO .none) (hTI : IsPair s.heap TI (.ref i1) (.ref i2)) (hTO : IsPair s.heap TO a b) (h1 : TAt s.heap i1 l1 xs k1) (h2 : TAt s.heap i2 l2 ys k2) (hend : xs[k1]? = none ∨ ys[k2]? = none)
    (hE : ∀ h' e, (∀ c o, c ≠ z → c ≠ TO → c ≠ i1 → c ≠ i2 → s.heap.get? c = some o → h'.get? c = some o) → (∃ o, h'.get? e = some o ∧ o.cls = .type "StopIteration") → E (.ref e) { s with heap := h' }) :
    wpAny (model prog w) A (Builtin.«zip.__next__» ⟨[.ref z], []⟩) Q E s := by
  refine wpAny_bind (m := field (.ref z) 2) (wpAny_field hz rfl (x := .bool false) rfl ?_)
  refine wpAny_bind (m := field (.ref z) 3) (wpAny_field hz rfl (x := .ref TI) rfl ?_)
  refine wpAny_bind (wpAny_seqItems hTI rfl ?_)
  refine wpAny_bind (m := Builtin.SmallTypes.ownedTupleIsFree (.ref z)) ?_
  unfold Builtin.SmallTypes.ownedTupleIsFree
  refine wpAny_bind (wpAny_field hz rfl (x := .none) rfl (wpAny_pure ?_))
  simp only [if_true]
  refine wpAny_bind (wpAny_rule ?_)
  refine wpAny_bind (wpAny_field hz rfl (x := .ref TO) rfl ?_)
  refine wpAny_bind (wpAny_setField_rec hz (by simp) fun g1 z1 e1 => ?_)
  refine wpAny_bind ?_
  simp only [List.zipIdx_cons, List.zipIdx_nil, List.forIn_cons, List.forIn_nil]
  refine wpAny_bind (wpAny_bind (wpAny_onRaise ?_))
  cases hx : xs[k1]? with
  | none =>
    refine wpAny_bind (m := Builtin.SmallTypes.nextOf (.ref i1)) (ask_tup_end hh (h1.but e1.extBut D.i1z D.l1z) hx fun g2 e e2 ⟨oe, hoe, hce⟩ => ?_)
    have z2 : IsZip g2 z TI TO .ellipsis := e2 _ _ D.i1z.symm z1
    have hez : e ≠ z := fun q => by subst q; rw [z2] at hoe; cases hoe; simp at hce
    exact wpAny_setField_rec z2 (by simp) fun g3 _ e3 => hE g3 e (fun c o c1 _ c3 _ q => e3.extBut _ _ c1 (e2 _ _ c3 (e1.extBut _ _ c1 q))) ⟨oe, e3.extBut _ _ hez hoe, hce⟩
  | some x =>
    have hy : ys[k2]? = none := by
      rcases hend with h | h
      · rw [hx] at h; cases h
      · exact h
    refine wpAny_bind (m := Builtin.SmallTypes.nextOf (.ref i1)) (ask_tup (h1.but e1.extBut D.i1z D.l1z) D.l1i1 hx fun g2 a2 e2 => wpAny_pure ?_)
    have t2 : IsPair g2 TO a b := e2.extBut _ _ D.TOi1 (e1.extBut _ _ D.TOz hTO)
    refine wpAny_bind (wpAny_seqItems t2 rfl ?_)
    refine wpAny_bind (wpAny_updateSeq_pair t2 fun g3 t3 e3 => ?_)
    refine wpAny_bind (wpAny_letGo (wpAny_pure ?_))
    refine wpAny_bind (wpAny_bind (wpAny_onRaise ?_))
    refine wpAny_bind (m := Builtin.SmallTypes.nextOf (.ref i2)) (ask_tup_end hh (((h2.but e1.extBut D.i2z D.l2z).but e2.extBut D.i12.symm D.l2i1).but e3.extBut D.TOi2.symm D.l2TO) hy fun g4 e e4 ⟨oe, hoe, hce⟩ => ?_)
    have z4 : IsZip g4 z TI TO .ellipsis := e4 _ _ D.i2z.symm (e3.extBut _ _ D.TOz.symm (e2.extBut _ _ D.i1z.symm z1))
    have hez : e ≠ z := fun q => by subst q; rw [z4] at hoe; cases hoe; simp at hce
    exact wpAny_setField_rec z4 (by simp) fun g5 _ e5 => hE g5 e (fun c o c1 c2 c3 c4 q => e5.extBut _ _ c1 (e4 _ _ c4 (e3.extBut _ _ c2 (e2.extBut _ _ c3 (e1.extBut _ _ c1 q))))) ⟨oe, e5.extBut _ _ hez hoe, hce⟩
theorem nextZT_item {z TI TO i1 i2 l1 l2 : Addr} {k1 k2 : Nat} {xs ys : Array Value} {x y a b : Value} {Q : Option Value → Shared → Prop} (D : ZipApart z TI TO i1 i2 l1 l2)
    (hz : IsZip s.heap z TI TO .none) (hTI : IsPair s.heap TI (.ref i1) (.ref i2)) (hTO : IsPair s.heap TO a b) (h1 : TAt s.heap i1 l1 xs k1) (h2 : TAt s.heap i2 l2 ys k2) (hx : xs[k1]? = some x) (hy : ys[k2]? = some y)
    (hQ : ∀ h', IsZip h' z TI TO (rawInt s.heap.objs.size) → IsPair h' TO x y → TAt h' i1 l1 xs (k1 + 1) → TAt h' i2 l2 ys (k2 + 1) → IsPair h' s.heap.objs.size x y → h'.objs.size = s.heap.objs.size + 1 →
      (∀ c o, c ≠ z → c ≠ TO → c ≠ i1 → c ≠ i2 → s.heap.get? c = some o → h'.get? c = some o) → Q (some (.ref s.heap.objs.size)) { s with heap := h' }) : wpAny (model prog w) A (pyNext (.ref z)) Q E s := by
  have hT : s.TypeIs (.ref z) "zip" := ⟨_, hz, rfl⟩
  unfold pyNext
  exact wpAny_bind (wpAny_attempt (wpAny_callSpecial?_slot (name := Str.ofString "__next__") hT F.slot_zip_next (wpAny_call_entry F.slot_zip_next hT F.entry_zip_next (zipT_item D hz hTI hTO h1 h2 hx hy fun h' a1 a2 a3 a4 a5 a6 a7 => wpAny_pure (hQ h' a1 a2 a3 a4 a5 a6 a7)) (F.args_zip_next_1 _))))
theorem nextZT_end {z TI TO i1 i2 l1 l2 : Addr} {k1 k2 : Nat} {xs ys : Array Value} {a b : Value} {Q : Option Value → Shared → Prop} (hh : A.handled = none) (D : ZipApart z TI TO i1 i2 l1 l2)
    (hz : IsZip s.heap z TI TO .none) (hTI : IsPair s.heap TI (.ref i1) (.ref i2)) (hTO : IsPair s.heap TO a b) (h1 : TAt s.heap i1 l1 xs k1) (h2 : TAt s.heap i2 l2 ys k2) (hend : xs[k1]? = none ∨ ys[k2]? = none)
    (hQ : ∀ h', (∀ c o, c ≠ z → c ≠ TO → c ≠ i1 → c ≠ i2 → s.heap.get? c = some o → h'.get? c = some o) → Q none { s with heap := h' }) : wpAny (model prog w) A (pyNext (.ref z)) Q E s := by
  have hT : s.TypeIs (.ref z) "zip" := ⟨_, hz, rfl⟩
  unfold pyNext
  refine wpAny_bind (wpAny_attempt (wpAny_callSpecial?_slot (name := Str.ofString "__next__") hT F.slot_zip_next (wpAny_call_entry F.slot_zip_next hT F.entry_zip_next (zipT_end hh D hz hTI hTO h1 h2 hend fun h' e hk ⟨o, ho, hc⟩ => ?_) (F.args_zip_next_1 _))))
  exact wpAny_bind (wpAny_isInstance (T := "StopIteration") (b := true) ⟨o, ho, hc⟩ isSubtype_stop (wpAny_pure (hQ _ hk)))
abbrev zt1 (h : Heap) (l1 : Addr) : Heap := h.push { cls := .type "tuple_iterator", data := .fields #[.ref l1, .int 0 0] }
abbrev zt2 (h : Heap) (l1 l2 : Addr) : Heap := (zt1 h l1).push { cls := .type "tuple_iterator", data := .fields #[.ref l2, .int 0 0] }
abbrev zt3 (h : Heap) (l1 l2 : Addr) : Heap := (zt2 h l1 l2).push { cls := .type "tuple", data := .seq #[.ref h.objs.size, .ref (zt1 h l1).objs.size] }
abbrev zt4 (h : Heap) (l1 l2 : Addr) : Heap := (zt3 h l1 l2).push { cls := .type "tuple", data := .seq #[.none, .none] }
abbrev zt5 (h : Heap) (l1 l2 : Addr) : Heap := (zt4 h l1 l2).push { cls := .type "zip", data := .fields #[.none, .bool false, .bool false, .ref (zt2 h l1 l2).objs.size, .ref (zt3 h l1 l2).objs.size] }
theorem meets_zipT_new (l1 l2 : Addr) (xs ys : Array Value) :
    Meets (Builtin.«zip.__new__» ⟨[.type "zip", .ref l1, .ref l2], []⟩) (fun _ R s => s.heap.IsTuple l1 xs ∧ s.heap.IsTuple l2 ys ∧
      ∀ h', IsZip h' (s.heap.objs.size + 4) (s.heap.objs.size + 2) (s.heap.objs.size + 3) .none → IsPair h' (s.heap.objs.size + 2) (.ref s.heap.objs.size) (.ref (s.heap.objs.size + 1)) → IsPair h' (s.heap.objs.size + 3) .none .none →
        h'.IsTupleIter s.heap.objs.size l1 0 → h'.IsTupleIter (s.heap.objs.size + 1) l2 0 → (∀ c o, s.heap.get? c = some o → h'.get? c = some o) → R (.ok (.ret (.ref (s.heap.objs.size + 4)))) { s with heap := h' }) :=
  .of_wp fun prog w A R s h => by
    obtain ⟨hp, g, d, tk, os⟩ := s; obtain ⟨hl1, hl2, h⟩ := h
    have hsub := sub_zip
    have hL1 : Heap.IsTuple (Shared.heap ⟨hp, g, d, tk, os⟩) l1 xs := hl1
    have hL2 : Heap.IsTuple (Shared.heap ⟨hp.push { cls := .type "tuple_iterator", data := .fields #[.ref l1, .int 0 0] }, g, d, tk, os⟩) l2 ys := Heap.IsTuple.push hl2 _
    wp_walk using wpAny_pyIter_tuple hL1, wpAny_pyIter_tuple hL2
    refine ⟨_, rfl, ?_⟩
    show R (.ok (.ret (.ref (zt4 hp l1 l2).objs.size))) { heap := zt5 hp l1 l2, gens := g, drawn := d, toks := tk, os := os }
    have z1 : (zt1 hp l1).objs.size = hp.objs.size + 1 := Heap.size_push ..
    have z2 : (zt2 hp l1 l2).objs.size = hp.objs.size + 2 := by rw [Heap.size_push, z1]
    have z3 : (zt3 hp l1 l2).objs.size = hp.objs.size + 3 := by rw [Heap.size_push, z2]
    have z4 : (zt4 hp l1 l2).objs.size = hp.objs.size + 4 := by rw [Heap.size_push, z3]
    have g5 : (zt5 hp l1 l2).get? (zt4 hp l1 l2).objs.size = some _ := Heap.get?_push_size _ rfl
    have g4 : (zt5 hp l1 l2).get? (zt3 hp l1 l2).objs.size = some _ := Heap.get?_push_of_some _ (Heap.get?_push_size _ rfl)
    have g3 : (zt5 hp l1 l2).get? (zt2 hp l1 l2).objs.size = some _ := Heap.get?_push_of_some _ (Heap.get?_push_of_some _ (Heap.get?_push_size _ rfl))
    have g2 : (zt5 hp l1 l2).get? (zt1 hp l1).objs.size = some _ := Heap.get?_push_of_some _ (Heap.get?_push_of_some _ (Heap.get?_push_of_some _ (Heap.get?_push_size _ rfl)))
    have g1 : (zt5 hp l1 l2).get? hp.objs.size = some _ := Heap.get?_push_of_some _ (Heap.get?_push_of_some _ (Heap.get?_push_of_some _ (Heap.get?_push_of_some _ (Heap.get?_push_size _ rfl))))
    rw [z2, z3, z4] at g5
    rw [z1, z2] at g3
    rw [z3] at g4
    rw [z1] at g2
    rw [z4]
    exact h _ g5 g3 g4 ⟨_, g1, rfl, rfl⟩ ⟨_, g2, rfl, rfl⟩ fun c o q => Heap.get?_push_of_some _ (Heap.get?_push_of_some _ (Heap.get?_push_of_some _ (Heap.get?_push_of_some _ (Heap.get?_push_of_some _ q))))
theorem call_zipT {l1 l2 : Addr} {xs ys : Array Value} {Q : Value → Shared → Prop} (hl1 : s.heap.IsTuple l1 xs) (hl2 : s.heap.IsTuple l2 ys)
    (h : ∀ h', IsZip h' (s.heap.objs.size + 4) (s.heap.objs.size + 2) (s.heap.objs.size + 3) .none → IsPair h' (s.heap.objs.size + 2) (.ref s.heap.objs.size) (.ref (s.heap.objs.size + 1)) → IsPair h' (s.heap.objs.size + 3) .none .none →
      h'.IsTupleIter s.heap.objs.size l1 0 → h'.IsTupleIter (s.heap.objs.size + 1) l2 0 → (∀ c o, s.heap.get? c = some o → h'.get? c = some o) → Q (.ref (s.heap.objs.size + 4)) { s with heap := h' }) :
    wpAny (model prog w) A (call (.type "zip") [.ref l1, .ref l2]) Q E s := by
  refine callType_new F.called_zip (by decide) (F.typeCall_zip_2 _ _) (F.newCall_zip_2 _ _) (fun obj => F.args_object_init_3 obj _ _) F.entry_zip_new (meets_zipT_new l1 l2 xs ys) ⟨hl1, hl2, fun h' a1 a2 a3 a4 a5 a6 => ?_⟩
  exact ⟨⟨_, a1, rfl⟩, h h' a1 a2 a3 a4 a5 a6⟩
end
end L3

/-! the rule: for x, y in zip(a, b) of tuples -/
namespace L3
open PySem PySem.Spec PyProof.Rows L2
def Itzt (K : PySem.W.Frag) (a b : Addr) : It :=
  ⟨fun i H => ∃ xs ys x y, SqT K H a xs ∧ SqT K H b ys ∧ xs[i]? = some x ∧ ys[i]? = some y, fun i H v H' => ∃ x y T, (∀ xs, SqT K H a xs → xs[i]? = some x) ∧ (∀ ys, SqT K H b ys → ys[i]? = some y) ∧ v = .ref T ∧ H T = none ∧ H' = upd H T (.tup [x, y]), fun i H => ∃ xs ys, SqT K H a xs ∧ SqT K H b ys ∧ (xs.length ≤ i ∨ ys.length ≤ i)⟩
theorem zip_apartT {h : Heap} {z TI TO i1 i2 l1 l2 : Addr} {f0 a b : Value} {k1 k2 : Nat} {xs ys : Array Value} (hTT : TI ≠ TO) (h12 : i1 ≠ i2) (n1 : l1 ≠ TO) (n2 : l2 ≠ TO) (hz : IsZip h z TI TO f0) (hTI : IsPair h TI (.ref i1) (.ref i2)) (hTO : IsPair h TO a b) (h1 : h.IsTupleIter i1 l1 k1) (h2 : h.IsTupleIter i2 l2 k2) (hl1 : h.IsTuple l1 xs) (hl2 : h.IsTuple l2 ys) : ZipApart z TI TO i1 i2 l1 l2 := by
  have ne : ∀ {c d : Addr} {o o' : Obj} {n m : String}, h.get? c = some o → h.get? d = some o' → o.cls = .type n → o'.cls = .type m → n ≠ m → c ≠ d := by
    intro c d o o' n m e1 e2 k1 k2 hnm zz
    subst zz
    rw [e1] at e2
    cases e2
    rw [k1] at k2
    cases k2
    exact hnm rfl
  obtain ⟨o1, e1, c1, d1⟩ := h1
  obtain ⟨o2, e2, c2, d2⟩ := h2
  obtain ⟨q1, g1, k1, m1⟩ := hl1
  obtain ⟨q2, g2, k2, m2⟩ := hl2
  exact ⟨ne hTI hz rfl rfl (by decide), ne hTO hz rfl rfl (by decide), ne e1 hz c1 rfl (by decide), ne e2 hz c2 rfl (by decide), hTT, ne hTI e1 rfl c1 (by decide), ne hTI e2 rfl c2 (by decide), ne hTO e1 rfl c1 (by decide), ne hTO e2 rfl c2 (by decide), h12,
    ne g1 hz k1 rfl (by decide), n1, ne g1 e1 k1 c1 (by decide), ne g1 e2 k1 c2 (by decide), ne g2 hz k2 rfl (by decide), n2, ne g2 e1 k2 c1 (by decide), ne g2 e2 k2 c2 (by decide)⟩
theorem turn_zipT {P : Program} {w : World} {K : PySem.W.Frag} {elts : List Expr} {kk : Nat} {tp : Pos} (a b z TI TO i1 i2 : Addr) (hTT : TI ≠ TO) (h12 : i1 ≠ i2) (haT : a ≠ TO) (hbT : b ≠ TO) : Turn P w K (.Tuple elts kk tp) (Itzt K a b) [z, TI, TO, i1, i2] z (fun i h => IsZip h z TI TO .none ∧ IsPair h TI (.ref i1) (.ref i2) ∧ (∃ u v, IsPair h TO u v) ∧ h.IsTupleIter i1 a i ∧ h.IsTupleIter i2 b i) where
  mem := by simp
  obj := fun i h st c hc => by
    obtain ⟨hz, hTI, ⟨u, v, hTO⟩, ⟨o1, e1, c1, d1⟩, o2, e2, c2, d2⟩ := st
    simp only [List.mem_cons, List.not_mem_nil, or_false] at hc
    rcases hc with rfl | rfl | rfl | rfl | rfl
    · exact ⟨_, hz, fun v z => by cases z⟩
    · exact ⟨_, hTI, fun v z => by cases z⟩
    · exact ⟨_, hTO, fun v z => by cases z⟩
    · exact ⟨o1, e1, fun v z => by rw [d1] at z; cases z⟩
    · exact ⟨o2, e2, fun v z => by rw [d2] at z; cases z⟩
  keep := fun i h h' st k => by
    obtain ⟨hz, hTI, ⟨u, v, hTO⟩, h1, h2⟩ := st
    exact ⟨k z (by simp) _ hz, k TI (by simp) _ hTI, ⟨u, v, k TO (by simp) _ hTO⟩, h1.at fun o x => k i1 (by simp) o x, h2.at fun o x => k i2 (by simp) o x⟩
  item := by
    intro X hP hw hK hc i pins s σ H E I hf st hg
    subst hP hw hK
    obtain ⟨xs, ys, x, y, hq1, hq2, hx, hy⟩ := hg
    obtain ⟨its1, rv1, p1, hz1⟩ := I.tuple hq1
    obtain ⟨its2, rv2, p2, hz2⟩ := I.tuple hq2
    obtain ⟨u, hu, ru⟩ := rv1.get hx
    obtain ⟨u', hu', ru'⟩ := rv2.get hy
    obtain ⟨hz, hTI, ⟨t1, t2, hTO⟩, h1, h2⟩ := st
    have D := zip_apartT hTT h12 haT hbT hz hTI hTO h1 h2 (show s.heap.IsTuple a its1.toArray from p1) (show s.heap.IsTuple b its2.toArray from p2)
    have lz : z < s.heap.objs.size := Heap.lt_size hz
    have lTI : TI < s.heap.objs.size := Heap.lt_size hTI
    have lTO : TO < s.heap.objs.size := Heap.lt_size hTO
    have l1 : i1 < s.heap.objs.size := by obtain ⟨_, y, _⟩ := h1; exact Heap.lt_size y
    have l2 : i2 < s.heap.objs.size := by obtain ⟨_, y, _⟩ := h2; exact Heap.lt_size y
    refine nextZT_item D hz hTI hTO ⟨h1, (show s.heap.IsTuple a its1.toArray from p1)⟩ ⟨h2, (show s.heap.IsTuple b its2.toArray from p2)⟩ (x := u) (y := u') (by simpa using hu) (by simpa using hu') fun h' a1 a2 a3 a4 a5 a6 hk => ?_
    refine ⟨_, rfl, ?_⟩
    refine wpAny_letOwnedTupleGo_zip (s := { s with heap := h' }) a1 fun h3 hz3 hs3 => ?_
    have hfr : H s.heap.objs.size = none := I.hok.fresh (Nat.le_refl _)
    have I1 : Inv X pins σ (upd H s.heap.objs.size (.tup [x, y])) { s with heap := s.heap.push { cls := .type "tuple", data := .seq #[u, u'] }, toks := s.toks } :=
      I.laid (t' := s.toks) (o := .tup [x, y]) (fun b o q => Heap.get?_push_of_some _ q) (Nat.le_refl _) ⟨(show 2 ≤ sizeLine by decide), [u, u'], .cons ru (.cons ru' .nil), IsTup.new _ _⟩
    have hT3 : h3.get? s.heap.objs.size = some { cls := .type "tuple", data := .seq #[u, u'] } := (hs3.2 _ (Nat.ne_of_gt lz)).trans a5
    have I3 : Inv X pins σ (upd H s.heap.objs.size (.tup [x, y])) { s with heap := h3, toks := s.toks } := by
      refine L2.Inv.turnedL (s := { s with heap := s.heap.push { cls := .type "tuple", data := .seq #[u, u'] }, toks := s.toks }) (its := [z, TI, TO, i1, i2]) (t' := s.toks) (h' := h3) I1 (fun c o hc q => ?_) (fun c hc => ?_)
      · simp only [List.mem_cons, List.not_mem_nil, or_false, not_or] at hc
        rcases Nat.lt_or_ge c s.heap.objs.size with hlt | hge
        · have q' : s.heap.get? c = some o := by
            rw [Heap.get?_push_ne _ _ _ (Nat.ne_of_lt hlt)] at q; exact q
          exact (hs3.2 c hc.1).trans (hk c o hc.1 hc.2.2.1 hc.2.2.2.1 hc.2.2.2.2 q')
        · have hlt2 := Heap.lt_size q
          rw [Heap.size_push] at hlt2
          have hbe : c = s.heap.objs.size := Nat.le_antisymm (Nat.le_of_lt_succ hlt2) hge
          subst hbe
          rw [Heap.get?_push_size _ rfl] at q
          cases q
          exact hT3
      · have hfc := hf c hc
        simp only [List.mem_cons, List.not_mem_nil, or_false] at hc
        rcases hc with rfl | rfl | rfl | rfl | rfl
        · exact fpOk_upd hfc (Nat.ne_of_lt lz)
        · exact fpOk_upd hfc (Nat.ne_of_lt lTI)
        · exact fpOk_upd hfc (Nat.ne_of_lt lTO)
        · exact fpOk_upd hfc (Nat.ne_of_lt l1)
        · exact fpOk_upd hfc (Nat.ne_of_lt l2)
    have up : Heap.ExtBut z h' h3 := fun c o hc e => (hs3.2 c hc).trans e
    refine ⟨.ref s.heap.objs.size, _, I3, rfl, ⟨x, y, _, fun ws hw => by rw [I.tuple_inj hw hq1]; exact hx, fun ws hw => by rw [I.tuple_inj hw hq2]; exact hy, rfl, hfr, rfl⟩, ⟨hz3, up _ _ D.TIz (hk _ _ D.TIz D.TITO D.TIi1 D.TIi2 hTI), ⟨_, _, up _ _ D.TOz a2⟩, (a3.but up D.i1z D.l1z).1, (a4.but up D.i2z D.l2z).1⟩, fun c hc => ?_⟩
    have hfc := hf c hc
    simp only [List.mem_cons, List.not_mem_nil, or_false] at hc
    rcases hc with rfl | rfl | rfl | rfl | rfl
    · rw [upd_ne (Nat.ne_of_lt lz)]; exact hfc.1
    · rw [upd_ne (Nat.ne_of_lt lTI)]; exact hfc.1
    · rw [upd_ne (Nat.ne_of_lt lTO)]; exact hfc.1
    · rw [upd_ne (Nat.ne_of_lt l1)]; exact hfc.1
    · rw [upd_ne (Nat.ne_of_lt l2)]; exact hfc.1
  done := by
    intro X hP hw hK hc i pins s σ H E I hf st hg
    subst hP hw hK
    obtain ⟨xs, ys, hq1, hq2, hx⟩ := hg
    obtain ⟨its1, rv1, p1, hz1⟩ := I.tuple hq1
    obtain ⟨its2, rv2, p2, hz2⟩ := I.tuple hq2
    obtain ⟨hz, hTI, ⟨t1, t2, hTO⟩, h1, h2⟩ := st
    have D := zip_apartT hTT h12 haT hbT hz hTI hTO h1 h2 (show s.heap.IsTuple a its1.toArray from p1) (show s.heap.IsTuple b its2.toArray from p2)
    have hl1 := rv1.length
    have hl2 := rv2.length
    refine nextZT_end (I.ok.hd hc) D hz hTI hTO ⟨h1, (show s.heap.IsTuple a its1.toArray from p1)⟩ ⟨h2, (show s.heap.IsTuple b its2.toArray from p2)⟩ (by simp; omega) fun h' eb => ⟨rfl, ?_⟩
    exact I.turnedL (its := [z, TI, TO, i1, i2]) (t' := s.toks) (fun c o hc q => eb c o (fun z => hc (by simp [z])) (fun z => hc (by simp [z])) (fun z => hc (by simp [z])) (fun z => hc (by simp [z])) q) hf
  self := fun _ _ _ _ _ st h => wpAny_pyIter_zip st.1 h
section
variable {X : Cx}
def iZipT (ta : TA) (K : PySem.W.Frag) : TI := fun σ H R => ta σ H fun vs H1 => ∃ a b xs ys, vs = [.ref a, .ref b] ∧ SqT K H1 a xs ∧ SqT K H1 b ys ∧ R (Itzt K a b) H1
theorem pi_zipT {elts : List Expr} {kk : Nat} {tp : Pos} {a b : Expr} {ta : TA} {p pos : Pos} (hg : Gl X "zip") (hm : X.mg "zip" = none) (ha : PA X [a, b] ta) (hs : starEach [a, b] X.env = [(false, eval a X.env), (false, eval b X.env)]) (hs2 : starEach [b] X.env = [(false, eval b X.env)]) : PI X (.Tuple elts kk tp) (.Call (.Name "zip" p) [a, b] [] pos) (iZipT ta X.K) := by
  intro pins s σ H R I h
  refine Call_ (ld_blt I hg hm bt_zip' (PyProof.Rows.callWith_type1 (thn (ha pos pins s σ H _ I h) fun us s1 ⟨vs, H1, I1, r1, q1⟩ => ?_) (by rw [hs, hs2]) (by rw [hs2]; rfl)))
  obtain ⟨l1, l2, xs, ys, e, hl1, hl2, q⟩ := q1
  subst e
  cases r1 with
  | cons r rr =>
    cases rr with
    | cons r' rr =>
      cases rr
      cases r
      cases r'
      obtain ⟨its1, rv1, p1, hz1⟩ := I1.tuple hl1
      obtain ⟨its2, rv2, p2, hz2⟩ := I1.tuple hl2
      have p1' : s1.heap.IsTuple l1 its1.toArray := p1
      have p2' : s1.heap.IsTuple l2 its2.toArray := p2
      have lt1 : l1 < s1.heap.objs.size := by obtain ⟨_, e, _⟩ := p1'; exact Heap.lt_size e
      have lt2 : l2 < s1.heap.objs.size := by obtain ⟨_, e, _⟩ := p2'; exact Heap.lt_size e
      refine call_zipT p1' p2' fun h' hz hTI hTO hi1 hi2 hk => ?_
      refine wpAny_pyIter_zip hz ?_
      have I2 : Inv X pins σ H1 { s1 with heap := h' } := I1.kept (t' := s1.toks) hk
      refine ⟨s1.heap.objs.size + 4, [s1.heap.objs.size + 4, s1.heap.objs.size + 2, s1.heap.objs.size + 3, s1.heap.objs.size, s1.heap.objs.size + 1], _, _, H1, rfl, I2, turn_zipT l1 l2 _ _ _ _ _ (Nat.ne_of_lt (Nat.lt_succ_self _)) (Nat.ne_of_lt (Nat.lt_succ_self _)) (Nat.ne_of_lt (Nat.lt_of_lt_of_le lt1 (Nat.le_add_right _ _))) (Nat.ne_of_lt (Nat.lt_of_lt_of_le lt2 (Nat.le_add_right _ _))), ⟨hz, hTI, ⟨_, _, hTO⟩, hi1, hi2⟩, fun c hc => ?_, q⟩
      have hge : s1.heap.objs.size ≤ c := by
        simp only [List.mem_cons, List.not_mem_nil, or_false] at hc
        rcases hc with rfl | rfl | rfl | rfl | rfl <;> first | exact Nat.le_refl _ | exact Nat.le_add_right _ _
      exact I1.fpOk hge (I1.hok.fresh hge)
theorem izipT {elts : List Expr} {kk : Nat} {tp : Pos} {a b : Expr} {ta : TA} {p pos : Pos} (K : PySem.W.Frag) (hg : Gl X "zip") (hm : X.mg "zip" = none) (ha : QA X [a, b] ta) (h : notStar a = true := by rfl) (h' : notStar b = true := by rfl) (hK : X.K = K := by rfl) : QI X (.Tuple elts kk tp) (.Call (.Name "zip" p) [a, b] [] pos) (iZipT ta K) := by
  subst hK
  exact .mk (pi_zipT hg hm ha.un (by rw [star_cons h, star_cons h', star_nil]) (by rw [star_cons h', star_nil]))
end
theorem comp_zipT {K : PySem.W.Frag} {a b : Addr} {xs ys : List V} {g : TG} {tt : TT} {te : TE} {acc : Addr} {σ0 : L2.St} {H0 : Hp} {Q : Hp → Prop} {n : Nat} (hn : n = min xs.length ys.length) (Pv : Nat → List V → L2.St → Hp → Prop) (h0 : Pv 0 [] σ0 H0) (hl : ∀ i zs σ H, Pv i zs σ H → SqT K H a xs ∧ SqT K H b ys)
    (hs : ∀ i zs x y σ H T, xs[i]? = some x → ys[i]? = some y → i < n → Pv i zs σ H → H T = none → g (.ref T) σ (upd H T (.tup [x, y])) fun σ2 H2 => tt σ2 H2 fun b H3 => if b = true then te σ2 H3 (CPost Pv acc n i σ2) else CSkip Pv n i σ2 H3)
    (hd : ∀ zs σ H, Pv n zs σ H → Q H) : CompW (Itzt K a b) g tt te acc σ0 H0 Q := by
  refine ⟨fun i m σ H => m = n - i ∧ i ≤ n ∧ ∃ ys, Pv i ys σ H, ⟨n, by simp, Nat.zero_le _, [], h0⟩, ?_⟩
  rintro i m σ H ⟨rfl, hi, zs, p⟩
  obtain ⟨q1, q2⟩ := hl i zs σ H p
  by_cases hlt : i < n
  · have h1 : i < xs.length := by omega
    have h2 : i < ys.length := by omega
    refine .inr ⟨⟨xs, ys, xs[i], ys[i], q1, q2, by simp [h1], by simp [h2]⟩, fun x H1 y => ?_⟩
    obtain ⟨x, y, T, hx, hy, rfl, hT, rfl⟩ := y
    have := hs i zs x y σ H T (hx xs q1) (hy ys q2) hlt p hT
    unfold CPost CSkip at this
    exact this
  · obtain rfl : i = n := by omega
    exact .inl ⟨⟨xs, ys, q1, q2, by omega⟩, hd zs σ H p⟩
end L3

/-! a tuple of one value times an int -/
namespace L3
open PySem PySem.Spec PyProof.Rows L2
theorem noFill_tup_mul : fillsNumberSlot (.type "tuple") "mul" = pure false :=
  PySem.fillsNumberSlot_seq (id := "tuple.__mul__") (r := some (.builtin "tuple.__rmul__")) F.slot_tuple_mul.lookup (by decide +kernel) F.slot_tuple_rmul.lookup (by decide +kernel)
theorem rep_tup_slot : seqRepeat? (.type "tuple") = pure (some (.builtin "tuple.__mul__")) := by
  unfold seqRepeat?
  rw [PySem.seqSlot_of (T := "tuple") (name := "__mul__") (id := "tuple.__mul__") F.slot_tuple_mul.lookup (by decide +kernel), PySem.seqSlot_of (T := "tuple") (name := "__rmul__") (id := "tuple.__rmul__") F.slot_tuple_rmul.lookup (by decide +kernel)]
  rfl
theorem rmul_int_tup (a : Int) (t : Tok) (l : Addr) (o : Obj) (items : Array Value) (n : Nat) (hc : o.cls = .type "tuple") (hd : o.data = .seq items n) :
    Meets (Builtin.«int.__rmul__» ⟨[.int a t, .ref l], []⟩) (fun _ R s => s.heap.get? l = some o ∧ R (.ok (.ret Value.notImplemented)) s) :=
  .of_wp fun prog w A R s h => by
    obtain ⟨hp, g, d, tk, os⟩ := s; obtain ⟨hl, h⟩ := h
    obtain ⟨c, dd, dt, sl⟩ := o
    subst hc hd
    wp_walk
    exact ⟨_, rfl, h⟩
theorem mul_tup (l : Addr) (o : Obj) (x : Value) (n : Nat) (hc : o.cls = .type "tuple") (hd : o.data = .seq #[x] n) (k : Int) (t : Tok) (hk : 2 ≤ k) (hk2 : k ≤ 1000) :
    Meets (Builtin.«tuple.__mul__» ⟨[.ref l, .int k t], []⟩) (fun _ R s => s.heap.get? l = some o ∧ R (.ok (.ret (.ref s.heap.objs.size))) { s with heap := s.heap.push { cls := .type "tuple", data := .seq (List.replicate k.toNat x).toArray } }) :=
  .of_wp fun prog w A R s h => by
    obtain ⟨hp, g, d, tk, os⟩ := s; obtain ⟨hl, h⟩ := h
    obtain ⟨c, dd, dt, sl⟩ := o
    subst hc hd
    have h1 : ¬ (k < -(2 ^ 63) || k ≥ 2 ^ 63) = true := by simp; omega
    have h2 : ¬ ((#[x] : Array Value).isEmpty || k == 1) = true := by simp; omega
    have h3 : ¬ (k ≤ 0 || (#[x] : Array Value).isEmpty) = true := by simp; omega
    have h4 : ¬ ((#[x] : Array Value).size : Int) * k > (2 ^ 63 - 1) / 8 := by simp; omega
    have h5 : ¬ Builtin.Tuple.tupleTooMany (((#[x] : Array Value).size : Int) * k) = true := by
      unfold Builtin.Tuple.tupleTooMany
      have : (1000 : Int) ≤ (sizeLine : Int) := by decide
      simp
      omega
    have hfold : List.foldl (fun x1 x2 => x1 ++ x2) #[] (List.replicate k.toNat (#[x] : Array Value)) = (List.replicate k.toNat x).toArray := by
      have := foldl_rep [x] k.toNat []
      rw [List.nil_append] at this
      rw [this]
      congr 1
      generalize k.toNat = m
      induction m with
      | zero => rfl
      | succ m ih => rw [List.replicate_succ, List.flatten_cons, ih]; rfl
    wp_walk
    rw [if_neg h1]
    wp_walk
    rw [if_neg h2, if_neg h3, if_neg h4, if_neg h5, hfold]
    have hz : (List.replicate k.toNat x).toArray.size ≤ sizeLine := by
      rw [List.size_toArray, List.length_replicate]
      have : (1000 : Nat) ≤ sizeLine := by decide
      omega
    unfold Builtin.Tuple.tupleExact
    refine wpAny_bind (wpAny_newObj_type (wpAny_pure ⟨_, rfl, h⟩) ?_)
    exact hz
theorem mul_tup1 (l : Addr) (o : Obj) (x : Value) (n : Nat) (hc : o.cls = .type "tuple") (hd : o.data = .seq #[x] n) (t : Tok) :
    Meets (Builtin.«tuple.__mul__» ⟨[.ref l, .int 1 t], []⟩) (fun _ R s => s.heap.get? l = some o ∧ R (.ok (.ret (.ref l))) s) :=
  .of_wp fun prog w A R s h => by
    obtain ⟨hp, g, d, tk, os⟩ := s; obtain ⟨hl, h⟩ := h
    obtain ⟨c, dd, dt, sl⟩ := o
    subst hc hd
    have h1 : ¬ (decide ((1 : Int) < -(2 ^ 63)) || decide ((1 : Int) ≥ 2 ^ 63)) = true := by decide
    wp_walk
    exact ⟨_, rfl, h⟩
section
variable {X : Cx}
def rRepT : R2 := fun x y H Q => ∃ l k v, x = .ref l ∧ y = .int k ∧ H l = some (.tup [v]) ∧ 1 ≤ k ∧ k ≤ 1000 ∧ ∀ q H', Same H H' → H' q = some (.tup (List.replicate k.toNat v)) → Q (.ref q) H'
theorem op_repT : OpR X (binaryOp .Mult) rRepT := by
  intro pins s σ H x y v u Q I rx ry h
  obtain ⟨l, k, v, rfl, rfl, hH, h1, h2, q⟩ := h
  cases rx
  obtain ⟨t, rfl⟩ := ry
  obtain ⟨hz, its, r, ho⟩ := I.hok l _ hH
  obtain ⟨o, e, hc, n, hd⟩ := ho
  cases r with
  | cons r1 rr =>
    cases rr
    rename_i w0
    refine wpAny_binaryOp_repeat_ref (T := "tuple") (U := "int") (by decide) ⟨_, e, hc⟩ (fun s' => typeIs_int s' k t) noFill_tup_mul F.fills_int_mul F.slot_int_rmul rep_tup_slot F.slot_int_index.lookup
      (call_meets F.slot_int_rmul (typeIs_int s k t) F.entry_int_rmul (F.args_int_rmul_2 _ _) (rmul_int_tup k t l o _ n hc hd) ⟨e, rfl, ⟨_, e, hc⟩, ?_⟩)
    by_cases hk : k = 1
    · subst hk
      exact call_meets F.slot_tuple_mul ⟨_, e, hc⟩ F.entry_tuple_mul (F.args_tuple_mul_2 _ _) (mul_tup1 l o w0 n hc hd t) ⟨e, .ref l, H, I, rfl, q l H (Same.refl _) hH⟩
    · refine call_meets F.slot_tuple_mul ⟨_, e, hc⟩ F.entry_tuple_mul (F.args_tuple_mul_2 _ _) (mul_tup l o w0 n hc hd k t (by omega) h2) ⟨e, ?_⟩
      refine ⟨.ref s.heap.objs.size, _, I.laid (t' := s.toks) (o := .tup (List.replicate k.toNat v)) (fun b o q => Heap.get?_push_of_some _ q) (Nat.le_refl _) ⟨?_, List.replicate k.toNat w0, ?_, IsTup.new _ _⟩, rfl, q _ _ (same_new I.fresh) upd_same⟩
      · rw [List.length_replicate]
        have : (1000 : Nat) ≤ sizeLine := by decide
        omega
      · generalize k.toNat = m
        induction m with
        | zero => exact .nil
        | succ m ih => exact .cons r1 ih
theorem rMulT : ROp X (binaryOp .Mult) rRepT := .mk op_repT
end
end L3

/-! max(xs, default=d) of a list of numbers -/
namespace L3
open PySem PySem.Spec PyProof.Rows L2
section
variable {prog : Program} {w : World} {A : Around}
/-- a built-in function that goes on in another step, asked with keywords -/
theorem call_tree_kw {E : Value → Shared → Prop} {s : Shared} {id : String} {b : Builtin} {args : List Value} {kw : List (Str × Value)} {Q : Value → Shared → Prop} (hk : builtinKind id = none) (hp : plainId id = true) (hb : entryFor table id = some b) (ha : argsOk id ⟨args, kw⟩)
    (hc : wpAny (model prog w) A.in1 (b ⟨args, kw⟩) (fun fin s' => match fin with
      | .done f => (match (Except.ok f : Result) with | .ok (.ret v) => Q v s' | .ok _ => False | .error e => E e s')
      | .again c' => c'.quiet = true ∧ codeAny (model prog w) A c' (fun r s' => match r with | .ok (.ret v) => Q v s' | .ok _ => False | .error e => E e s') s') E s) :
    wpAny (model prog w) A (call (.builtin id) args kw) Q E s := by
  refine wpAny_call (codeAny_call_builtin hp hb ?_)
  simp only [checkBuiltinCall, hk]
  cases hsig : Manifest.signature? id with
  | none => exact wpAny_pure hc
  | some sig =>
    have ha' : Bind.checkArgs id sig ⟨args, kw⟩ = pure () := by simpa only [argsOk, hsig] using ha
    simp only [ha']
    exact wpAny_pure hc
variable {R : Result → Shared → Prop} {it : Addr} {fp wr : List Addr} {n : Nat} {P : Nat → Value → Prop} {St : Nat → Heap → Prop} {kw : List (Str × Value)}
theorem maxk_loop (W : Walks prog w A.in1 it fp wr n P St) (bt : Nat → Nat → Bool) (hcmp : CmpOf prog w A.in1 .Gt P bt) (S : Addr) (hSf : S ∉ fp) :
    ∀ (k j : Nat) (s : Shared) (vb : Value) (c : Nat), n = j + 1 + k → St (j + 1) s.heap → P (argBest bt j) vb →
    s.heap.get? S = some { cls := .type "list", dict := none, data := .seq #[vb, vb] c, slots := #[] } →
    (∀ v h' tk, P (argBest bt (n - 1)) v → (∀ b o, b ∉ wr → b ≠ S → s.heap.get? b = some o → h'.get? b = some o) → R (.ok (.ret v)) { s with heap := h', toks := tk }) →
    codeAny (model prog w) A (.builtin "max.loop" ⟨[.ref it, .none, .ref S], kw⟩) R s
  | 0, j, s, vb, c, hn, hst, hPb, hS, hR => by
    have hSw : S ∉ wr := fun h => hSf (W.sub _ h)
    have hin : j + 1 = n := by omega
    refine codeAny_builtin F.entry_max_loop ?_
    rw [Around.under_plainId F.plain_max_loop _]
    show wpAny _ A.in1 (seqItems? (.ref S) >>= _) _ _ s
    refine wpAny_bind (wpAny_seqItems hS rfl ?_)
    show wpAny _ A.in1 (tryCatch (pyNext (.ref it)) _ >>= _) _ _ s
    refine wpAny_bind (wpAny_tryCatch (W.done s _ _ (hin ▸ hst) fun h' tk hk' => ?_))
    have hS' := hk' S _ hSw hS
    show wpAny _ A.in1 (updateSeq S (fun _ => #[]) >>= _) _ _ _
    refine wpAny_bind (wpAny_updateSeq hS' rfl (wpAny_bind (wpAny_letGo (wpAny_pure ?_))))
    exact hR vb _ tk (by rw [← hin]; exact hPb) fun b o hbw hbS e => (Heap.get?_update_other _ _ (Ne.symm hbS)).trans (hk' b o hbw e)
  | k + 1, j, s, vb, c, hn, hst, hPb, hS, hR => by
    have hSw : S ∉ wr := fun h => hSf (W.sub _ h)
    have hname : (toString "max" ++ toString ".loop" : String) = "max.loop" := by decide
    refine codeAny_builtin F.entry_max_loop ?_
    rw [Around.under_plainId F.plain_max_loop _]
    show wpAny _ A.in1 (seqItems? (.ref S) >>= _) _ _ s
    refine wpAny_bind (wpAny_seqItems hS rfl ?_)
    show wpAny _ A.in1 (tryCatch (pyNext (.ref it)) _ >>= _) _ _ s
    refine wpAny_bind (wpAny_tryCatch (W.item (j + 1) s _ _ (by omega) hst fun v h' tk hP hst' hk' => ?_))
    have hS' := hk' S _ hSw hS
    show wpAny _ A.in1 (tryCatch (holding [v, v] (richCompare .Gt v vb >>= _)) _ >>= _) _ _ _
    refine wpAny_bind (wpAny_tryCatch (wpAny_holding (wpAny_bind (hcmp (j + 1) (argBest bt j) v vb _ _ _ hP hPb ?_))))
    refine wpAny_bind (wpAny_holding (wpAny_truthy_bool (wpAny_bind (wpAny_letGo (wpAny_pure ?_)))))
    cases hb : bt (j + 1) (argBest bt j) with
    | true =>
      simp only [if_true]
      refine wpAny_bind (wpAny_updateSeq hS' rfl (wpAny_bind (wpAny_letGo ?_)))
      rw [hname]
      refine wpAny_pure ⟨plainId_quiet F.plain_max_loop _, maxk_loop W bt hcmp S hSf k (j + 1) _ v _ (by omega) (W.frame _ _ _ hst' fun b hbf o e => ?_) (by simp only [argBest, hb, if_true]; exact hP) (Heap.get?_update_self _ hS' rfl) fun v' h'' tk'' hP' hk'' => ?_⟩
      · exact (Heap.get?_update_other _ _ (fun h : S = b => hSf (by rw [h]; exact hbf))).trans e
      · exact hR v' h'' tk'' hP' fun b o hbw hbS e => hk'' b o hbw hbS ((Heap.get?_update_other _ _ (Ne.symm hbS)).trans (hk' b o hbw e))
    | false =>
      simp only [Bool.false_eq_true, if_false]
      refine wpAny_bind (wpAny_letGo ?_)
      rw [hname]
      refine wpAny_pure ⟨plainId_quiet F.plain_max_loop _, maxk_loop W bt hcmp S hSf k (j + 1) _ vb c (by omega) hst' (by simp only [argBest, hb, Bool.false_eq_true, if_false]; exact hPb) hS' fun v' h'' tk'' hP' hk'' => ?_⟩
      exact hR v' h'' tk'' hP' fun b o hbw hbS e => hk'' b o hbw hbS (hk' b o hbw e)
/-- the first turn, or none at all -/
theorem maxk_first {d : Value} {nm : Str} (W : Walks prog w A.in1 it fp wr n P St) (bt : Nat → Nat → Bool) (hcmp : CmpOf prog w A.in1 .Gt P bt) (S : Addr) (hSf : S ∉ fp) {s : Shared} {c : Nat} (hst : St 0 s.heap)
    (hS : s.heap.get? S = some { cls := .type "list", dict := none, data := .seq #[] c, slots := #[] })
    (hR : ∀ v h' tk, (n = 0 ∧ v = d ∨ 0 < n ∧ P (argBest bt (n - 1)) v) → (∀ b o, b ∉ wr → b ≠ S → s.heap.get? b = some o → h'.get? b = some o) → R (.ok (.ret v)) { s with heap := h', toks := tk }) :
    codeAny (model prog w) A (.builtin "max.loop" ⟨[.ref it, .none, .ref S], [(nm, d)]⟩) R s := by
  have hSw : S ∉ wr := fun h => hSf (W.sub _ h)
  have hname : (toString "max" ++ toString ".loop" : String) = "max.loop" := by decide
  refine codeAny_builtin F.entry_max_loop ?_
  rw [Around.under_plainId F.plain_max_loop _]
  show wpAny _ A.in1 (seqItems? (.ref S) >>= _) _ _ s
  refine wpAny_bind (wpAny_seqItems hS rfl ?_)
  show wpAny _ A.in1 (tryCatch (pyNext (.ref it)) _ >>= _) _ _ s
  rcases Nat.eq_zero_or_pos n with h0 | hn
  · subst h0
    refine wpAny_bind (wpAny_tryCatch (W.done s _ _ hst fun h' tk hk' => ?_))
    refine wpAny_bind (wpAny_rule (wpAny_pure ?_))
    exact hR d h' tk (.inl ⟨rfl, rfl⟩) fun b o hbw hbS e => hk' b o hbw e
  · refine wpAny_bind (wpAny_tryCatch (W.item 0 s _ _ hn hst fun v h' tk hP hst' hk' => ?_))
    have hS' := hk' S _ hSw hS
    show wpAny _ A.in1 (updateSeq S (fun _ => #[v, v]) >>= _) _ _ _
    refine wpAny_bind (wpAny_updateSeq hS' rfl ?_)
    rw [hname]
    refine wpAny_pure ⟨plainId_quiet F.plain_max_loop _, maxk_loop W bt hcmp S hSf (n - 1) 0 _ v _ (by omega) (W.frame _ _ _ hst' fun b hbf o e => ?_) hP (Heap.get?_update_self _ hS' rfl) fun v' h'' tk'' hP' hk'' => ?_⟩
    · exact (Heap.get?_update_other _ _ (fun h : S = b => hSf (by rw [h]; exact hbf))).trans e
    · exact hR v' h'' tk'' (.inr ⟨hn, hP'⟩) fun b o hbw hbS e => hk'' b o hbw hbS ((Heap.get?_update_other _ _ (Ne.symm hbS)).trans (hk' b o hbw e))
theorem args_maxd (a d : Value) : argsOk "max" ⟨[a], [("default", d)]⟩ := by unfold argsOk; kernel_rfl
theorem maxd_intList {E : Value → Shared → Prop} {s : Shared} {l : Addr} {xs : Array (Int × Tok)} {d : Value} {Q : Value → Shared → Prop} (hh : A.handled = none) (hl : s.heap.IsList l (intItems xs))
    (h : ∀ v h' tk, (xs.size = 0 ∧ v = d ∨ 0 < xs.size ∧ (intItems xs)[argBest (fun i j => decide (numAt xs i > numAt xs j)) (xs.size - 1)]? = some v) → (∀ b o, s.heap.get? b = some o → h'.get? b = some o) → Q v { s with heap := h', toks := tk }) :
    wpAny (model prog w) A (call (.builtin "max") [.ref l] [("default", d)]) Q E s := by
  have hname : (toString "max" ++ toString ".loop" : String) = "max.loop" := by decide
  refine call_tree_kw F.kind_max F.plain_max F.entry_max (args_maxd _ _) ?_
  show wpAny _ A.in1 (Builtin.Builtins.bindParams "max" ["key", "default"] 0 ⟨[], [("default", d)]⟩ >>= _) _ _ s
  refine wpAny_bind (wpAny_of_eq (show Builtin.Builtins.bindParams "max" ["key", "default"] 0 ⟨[], [("default", d)]⟩ = pure [none, some d] from rfl) ?_)
  refine wpAny_bind (wpAny_pure ?_)
  refine wpAny_bind (iter_intList hl fun s₂ e st hfp hlI => ?_)
  subst e
  refine wpAny_bind (wpAny_newObj_type ?_)
  rw [hname]
  have W := Walks.list (prog := prog) (w := w) (A := A.in1) hh s.heap.objs.size l hlI (intItems xs)
  refine wpAny_pure ⟨plainId_quiet F.plain_max_loop _, maxk_first (d := d) W _ (CmpOf.ints_gt (numAt xs) (fun _ _ => intItems_at)) _ (fun hm => Nat.lt_irrefl _ (hfp _ hm)) (W.frame _ _ _ st fun b _ o e => Heap.get?_push_of_some _ e) (Heap.get?_push_size _ rfl) fun v h' tk hv hk => ?_⟩
  refine h v h' tk (by simpa [intItems] using hv) (old_kept fun b o hbw e => hk b o hbw (Nat.ne_of_lt (Heap.lt_size e)) (Heap.get?_push_of_some _ e))
end
section
variable {X : Cx}
/-- max(e, default=d) -/
def tMaxD (K : PySem.W.Frag) (ta : TA) (te : TE) : TE := fun σ H Q => ta σ H fun vs H1 => te σ H1 fun x H2 => ∃ (p : Addr) (ns : List Int) (m : Int), vs = [.ref p] ∧ x = .int m ∧ SqL K H2 p (ns.map V.int) ∧ ∀ M, (ns = [] ∧ M = m ∨ M ∈ ns ∧ ∀ a ∈ ns, a ≤ M) → Q (.int M) H2
theorem pe_maxD {e d : Expr} {ta : TA} {te : TE} {p kp pos : Pos} (hc : X.calm = true) (hg : Gl X "max") (hm : X.mg "max" = none) (hv : bootBuiltins "max" = some (.builtin "max")) (ha : PA X [e] ta) (hd : PE X d te) (he : starEach [e] X.env = [(false, eval e X.env)]) :
    PE X (.Call (.Name "max" p) [e] [⟨some "default", d, kp⟩] pos) (tMaxD X.K ta te) := by
  intro pins s σ H Q I h
  refine wpAny_Call_Name_kw (ld_blt I hg hm hv ?_)
  refine PyProof.Rows.callWith_kw (thn (ha pos pins s σ H _ I h) fun us s1 ⟨vs, H1, I1, r1, q1⟩ => ?_) (by rw [he]; rfl) (by rw [he]; rfl)
  refine kws_cons (thn (hd pins s1 σ H1 _ I1 q1) fun v s2 ⟨x, H2, I2, r2, q2⟩ => ?_)
  refine kws_nil ?_
  obtain ⟨q, ns, m, rfl, rfl, hq, g⟩ := q2
  obtain ⟨u, rfl, ru⟩ := vals1 r1
  cases ru
  obtain ⟨t, rfl⟩ := r2
  obtain ⟨its, r, pl, hz⟩ := I2.list hq
  have hi := intsAre_of r
  obtain ⟨ys, e'⟩ := hi.allInts.items
  have hns : ns = ys.toList.map (·.1) := by rw [← hi.numsOf, ← nums_intItems, ← e']
  have hl := pl.isList
  rw [e'] at hl
  refine maxd_intList (I2.ok.hd hc) hl fun v h' tk hv hk => ?_
  rcases hv with ⟨h0, rfl⟩ | ⟨hsz, hv⟩
  · refine ⟨.int m, H2, I2.kept hk, ⟨t, rfl⟩, g m (.inl ⟨?_, rfl⟩)⟩
    rw [hns]
    have : ys = #[] := Array.eq_empty_of_size_eq_zero h0
    rw [this]; rfl
  · obtain ⟨t, rfl⟩ := intItems_at hv
    obtain ⟨h1, h2⟩ := argBest_gt (numAt ys) (ys.size - 1)
    refine ⟨.int _, H2, I2.kept hk, ⟨t, rfl⟩, g _ (.inr ⟨?_, fun a ha => ?_⟩)⟩
    · rw [hns, numAt_eq]; exact getD_mem (by rw [List.length_map, Array.length_toList]; omega)
    · rw [hns] at ha
      obtain ⟨j, hj, rfl⟩ := mem_getD ha
      rw [List.length_map, Array.length_toList] at hj
      rw [← numAt_eq]; exact h2 j (by omega)
theorem qMaxD {e d : Expr} {ta : TA} {te : TE} {p kp pos : Pos} (K : PySem.W.Frag) (hg : Gl X "max") (hm : X.mg "max" = none) (hv : bootBuiltins "max" = some (.builtin "max")) (ha : QA X [e] ta) (hd : QE X d te) (h : notStar e = true := by rfl) (hc : X.calm = true := by rfl) (hK : X.K = K := by rfl) :
    QE X (.Call (.Name "max" p) [e] [⟨some "default", d, kp⟩] pos) (tMaxD K ta te) := by
  subst hK
  exact .mk (pe_maxD hc hg hm hv ha.un hd.un (by rw [star_cons h, star_nil]))
end
end L3

/-! dict(zip(xs, ys)) -/
namespace HT
open PySem PyProof.Rows
theorem zip_getattr_none : typeLookup (.type "zip") "__getattr__" = pure none := by rw [typeLookup_type, builtinLookup_eq_fast]; kernel_rfl
theorem entry_zip_ga : entryFor table "zip.__getattribute__" = some Builtin.«object.__getattribute__» :=
  entryFor_alias (id' := "object.__getattribute__") (by kernel_rfl) (by decide +kernel) (by decide +kernel) (by kernel_rfl)
theorem zip_keys_none : typeLookup (.type "zip") "keys" = pure none := am_miss_of_fast (by kernel_rfl)
theorem meets_zip_keys (a : Addr) (vs : Array Value) (u : Tok) :
    Meets (Builtin.«object.__getattribute__» ⟨[.ref a, .str "keys" u], []⟩) (fun A R s => s.heap.get? a = some { cls := .type "zip", dict := none, data := .fields vs, slots := #[] } ∧ raisesAttr (.ref a) "keys" A R s) :=
  Meets.of_wp fun prog w A R s hs => by
    obtain ⟨hp, g, d, tk, os⟩ := s
    obtain ⟨hx, hs⟩ := hs
    have hT : (⟨hp, g, d, tk, os⟩ : Shared).TypeIs (.ref a) "zip" := ⟨_, hx, rfl⟩
    have hmiss := zip_keys_none
    unfold Builtin.«object.__getattribute__»
    repeat (any_goals (first | assumption | wp_step))
    try simp only [show (["__module__", "__name__", "__qualname__", "__doc__", "__annotations__"] : List Str).contains "keys" = false by decide, Bool.false_eq_true, if_false]
    repeat (any_goals (first | assumption | wp_step))
    exact wpAny_raiseAttrError hs.1 hs.2 (attrMsg_fits (by decide +kernel) (by size_fits))
theorem getAttrQ_zip_keys {prog : Program} {w : World} {A : Around} {E : Value → Shared → Prop} {s : Shared} {a : Addr} {vs : Array Value} {Q : Option Value → Shared → Prop}
    (hx : s.heap.get? a = some { cls := .type "zip", dict := none, data := .fields vs, slots := #[] }) (hA : A.handled = none)
    (h : ∀ h' tk, (∀ b o, s.heap.get? b = some o → h'.get? b = some o) → Q none { s with heap := h', toks := tk }) :
    wpAny (model prog w) A (getAttr? (.ref a) "keys") Q E s := by
  obtain ⟨hp, g, d, tk, os⟩ := s
  have hT : ∀ tk', (⟨hp, g, d, tk', os⟩ : Shared).TypeIs (.ref a) "zip" := fun _ => ⟨_, hx, rfl⟩
  have f1 := sub_AttributeError
  have f3 := PySem.F.slot_zip_getattribute.lookup
  have f4 := PySem.F.slot_zip_getattribute.bind (.ref a)
  have f5 := zip_getattr_none
  unfold getAttr? getAttrBy? getAttrBy
  repeat (any_goals (first | assumption | exact hT _ | ((with_reducible show wpAny _ _ (call (Value.builtin "zip.__getattribute__") _ _) _ _ _); refine call_meets PySem.F.slot_zip_getattribute (hT _) entry_zip_ga (PySem.F.args_zip_getattribute_2 _ _) (meets_zip_keys a vs _) ⟨hx, hA, fun h' tk' e hx' => ?_⟩) | wp_step))
  obtain ⟨t', u', he⟩ := hx'.there
  show wpAny _ _ (getattributeRaised _ _ _ _ _ _ _) _ _ _
  unfold getattributeRaised
  repeat (any_goals (first | assumption | wp_step))
  exact h _ _ hx'.keeps
/-- a zip whose own tuple is still in another's hands -/
abbrev IsZip2 (h : Heap) (z TI TO T : Addr) (b : Bool) : Prop :=
  h.get? z = some { cls := .type "zip", dict := none, data := .fields #[rawInt T, .bool b, .bool false, .ref TI, .ref TO], slots := #[] }
section
variable {prog : Program} {w : World} {A : Around} {E : Value → Shared → Prop} {s : Shared}
theorem owned_not_free {z TI TO T : Addr} {b : Bool} {o : Obj} {Q : Bool → Shared → Prop} (hz : IsZip2 s.heap z TI TO T b) (hT : s.heap.get? T = some o)
    (h : ∀ h', IsZip2 h' z TI TO T true → Heap.SameBut z s.heap h' → Q false { s with heap := h' }) :
    wpAny (model prog w) A (Builtin.SmallTypes.ownedTupleIsFree (.ref z)) Q E s := by
  unfold Builtin.SmallTypes.ownedTupleIsFree
  refine wpAny_bind (wpAny_field hz rfl (x := rawInt T) rfl ?_)
  show wpAny _ _ (loadIfAlive ((T : Int).toNat) >>= _) _ _ _
  have hla : ∀ {Q' : Option Obj → Shared → Prop}, Q' (some o) s → wpAny (model prog w) A (loadIfAlive ((T : Int).toNat)) Q' E s := fun {Q'} hq Γ p hΓ => by
    unfold loadIfAlive
    rw [Sem.wp_loadIfAlive, Int.toNat_natCast, hT]
    exact (wpAny_pure hq : wpAny (model prog w) A (pure (some o)) Q' E s) Γ p hΓ
  refine wpAny_bind (hla ?_)
  show wpAny _ _ (field (.ref z) 1 >>= _) _ _ _
  refine wpAny_bind (wpAny_field hz rfl (x := .bool b) rfl ?_)
  cases b with
  | true =>
    exact wpAny_pure (h s.heap hz (Heap.SameBut.refl _ _))
  | false =>
    refine wpAny_bind (wpAny_setField_rec hz (by simp) fun h' hz' hs' => wpAny_pure (h h' hz' hs'))
end
end HT

namespace HT
open PySem PyProof.Rows
section
variable {prog : Program} {w : World} {A : Around} {E : Value → Shared → Prop} {s : Shared}
theorem zip2_item {z TI TO i1 i2 l1 l2 T : Addr} {c : Bool} {o : Obj} {k1 k2 : Nat} {xs ys : Array Value} {x y : Value} {Q : Option Value → Shared → Prop} (D : ZipApart z TI TO i1 i2 l1 l2)
    (hz : IsZip2 s.heap z TI TO T c) (hT : s.heap.get? T = some o) (hTI : IsPair s.heap TI (.ref i1) (.ref i2)) (h1 : s.heap.IsListIter i1 l1 k1) (h2 : s.heap.IsListIter i2 l2 k2) (hl1 : s.heap.IsList l1 xs) (hl2 : s.heap.IsList l2 ys) (hx : xs[k1]? = some x) (hy : ys[k2]? = some y)
    (hQ : ∀ h', IsZip2 h' z TI TO T true → h'.IsListIter i1 l1 (k1 + 1) → h'.IsListIter i2 l2 (k2 + 1) → IsPair h' s.heap.objs.size x y → h'.objs.size = s.heap.objs.size + 1 →
      (∀ c o, c ≠ z → c ≠ i1 → c ≠ i2 → s.heap.get? c = some o → h'.get? c = some o) → Q (some (.ref s.heap.objs.size)) { s with heap := h' }) :
    wpAny (model prog w) A (pyNext (.ref z)) Q E s := by
  have hTy : s.TypeIs (.ref z) "zip" := ⟨_, hz, rfl⟩
  unfold pyNext
  refine wpAny_bind (wpAny_attempt (wpAny_callSpecial?_slot (name := Str.ofString "__next__") hTy F.slot_zip_next
    (wpAny_call_entry F.slot_zip_next hTy F.entry_zip_next ?_ (F.args_zip_next_1 _))))
  show wpAny _ _ (field (.ref z) 2 >>= _) _ _ _
  refine wpAny_bind (wpAny_field hz rfl (x := .bool false) rfl ?_)
  show wpAny _ _ (field (.ref z) 3 >>= _) _ _ _
  refine wpAny_bind (wpAny_field hz rfl (x := .ref TI) rfl ?_)
  refine wpAny_bind (wpAny_seqItems hTI rfl ?_)
  show wpAny _ _ (Builtin.SmallTypes.ownedTupleIsFree (.ref z) >>= _) _ _ _
  refine wpAny_bind (owned_not_free hz hT fun h₁ hz₁ hs₁ => ?_)
  simp only [Bool.false_eq_true, if_false]
  rw [List.forIn_toArray]
  simp only [List.forIn_cons, List.forIn_nil]
  refine wpAny_bind (wpAny_bind (wpAny_bind (wpAny_holding ?_)))
  show wpAny _ _ (Builtin.SmallTypes.nextOf (.ref i1) >>= _) _ _ _
  refine wpAny_bind (wpAny_nextOf_list_item (h1.extBut hs₁.extBut D.i1z) (hl1.extBut hs₁.extBut D.l1z) hx fun h₂ h1₂ hs₂ => wpAny_pure (wpAny_pure ?_))
  refine wpAny_bind (wpAny_bind (wpAny_holding ?_))
  show wpAny _ _ (Builtin.SmallTypes.nextOf (.ref i2) >>= _) _ _ _
  refine wpAny_bind (wpAny_nextOf_list_item ((h2.extBut hs₁.extBut D.i2z).extBut hs₂.extBut D.i12.symm) ((hl2.extBut hs₁.extBut D.l2z).extBut hs₂.extBut D.l2i1) hy fun h₃ h2₃ hs₃ => wpAny_pure (wpAny_pure (wpAny_pure ?_)))
  refine wpAny_bind (wpAny_newTuple (hsz := (show 2 ≤ sizeLine by decide)) (wpAny_pure ⟨_, rfl, wpAny_pure ?_⟩))
  have hsz : h₃.objs.size = s.heap.objs.size := by rw [hs₃.1, hs₂.1, hs₁.1]
  have hz₃ : IsZip2 h₃ z TI TO T true := hs₃.extBut _ _ D.i2z.symm (hs₂.extBut _ _ D.i1z.symm hz₁)
  have hk₃ : ∀ c o, c ≠ z → c ≠ i1 → c ≠ i2 → s.heap.get? c = some o → h₃.get? c = some o := fun c o c1 c2 c3 e => hs₃.extBut _ _ c3 (hs₂.extBut _ _ c2 (hs₁.extBut _ _ c1 e))
  have h1₃ : h₃.IsListIter i1 l1 (k1 + 1) := h1₂.extBut hs₃.extBut D.i12
  have up : ∀ c o, h₃.get? c = some o → (h₃.push { cls := .type "tuple", data := .seq #[x, y] }).get? c = some o := fun c o e => Heap.get?_push_of_some _ e
  have := hQ (h₃.push { cls := .type "tuple", data := .seq #[x, y] }) (up _ _ hz₃) (h1₃.at fun o e => up _ o e) (h2₃.at fun o e => up _ o e) (by rw [← hsz]; exact Heap.get?_push_size _ rfl) (by rw [Heap.size_push, hsz]) fun c o c1 c2 c3 e => up c o (hk₃ c o c1 c2 c3 e)
  rw [← hsz] at this
  exact this
theorem zip2_end {z TI TO i1 i2 l1 l2 T : Addr} {c : Bool} {o : Obj} {k1 k2 : Nat} {xs ys : Array Value} {Q : Option Value → Shared → Prop} (hh : A.handled = none) (D : ZipApart z TI TO i1 i2 l1 l2)
    (hz : IsZip2 s.heap z TI TO T c) (hT : s.heap.get? T = some o) (hTI : IsPair s.heap TI (.ref i1) (.ref i2)) (h1 : s.heap.IsListIter i1 l1 k1) (h2 : s.heap.IsListIter i2 l2 k2) (hl1 : s.heap.IsList l1 xs) (hl2 : s.heap.IsList l2 ys) (hx : xs[k1]? = none)
    (hQ : ∀ h', (∀ c o, c ≠ z → c ≠ i1 → c ≠ i2 → s.heap.get? c = some o → h'.get? c = some o) → Q none { s with heap := h' }) :
    wpAny (model prog w) A (pyNext (.ref z)) Q E s := by
  have hTy : s.TypeIs (.ref z) "zip" := ⟨_, hz, rfl⟩
  unfold pyNext
  refine wpAny_bind (wpAny_attempt (wpAny_callSpecial?_slot (name := Str.ofString "__next__") hTy F.slot_zip_next
    (wpAny_call_entry F.slot_zip_next hTy F.entry_zip_next ?_ (F.args_zip_next_1 _))))
  show wpAny _ _ (field (.ref z) 2 >>= _) _ _ _
  refine wpAny_bind (wpAny_field hz rfl (x := .bool false) rfl ?_)
  show wpAny _ _ (field (.ref z) 3 >>= _) _ _ _
  refine wpAny_bind (wpAny_field hz rfl (x := .ref TI) rfl ?_)
  refine wpAny_bind (wpAny_seqItems hTI rfl ?_)
  show wpAny _ _ (Builtin.SmallTypes.ownedTupleIsFree (.ref z) >>= _) _ _ _
  refine wpAny_bind (owned_not_free hz hT fun h₁ hz₁ hs₁ => ?_)
  simp only [Bool.false_eq_true, if_false]
  rw [List.forIn_toArray]
  simp only [List.forIn_cons, List.forIn_nil]
  refine wpAny_bind (wpAny_bind (wpAny_bind (wpAny_holding ?_)))
  show wpAny _ _ (Builtin.SmallTypes.nextOf (.ref i1) >>= _) _ _ _
  refine wpAny_bind (wpAny_nextOf_list_end hh (h1.extBut hs₁.extBut D.i1z) (hl1.extBut hs₁.extBut D.l1z) hx fun h₂ e hs₂ he => ?_)
  obtain ⟨oe, hoe, hce⟩ := he
  refine wpAny_bind (wpAny_isInstance (T := "StopIteration") (b := true) ⟨oe, hoe, hce⟩ isSubtype_stop ?_)
  exact wpAny_pure (hQ _ fun c o c1 c2 c3 x => hs₂ _ _ c2 (hs₁.extBut _ _ c1 x))
/-- where a zip of two lists stands in a dict's making -/
def ZS (z TI TO i1 i2 l1 l2 : Addr) (i : Nat) (h : Heap) : Prop :=
  IsPair h TI (.ref i1) (.ref i2) ∧ h.IsListIter i1 l1 i ∧ h.IsListIter i2 l2 i ∧ (∃ a b, IsPair h TO a b) ∧ ((IsZip h z TI TO .none) ∨ ∃ T b o, IsZip2 h z TI TO T b ∧ h.get? T = some o ∧ T ≠ z ∧ T ≠ TO ∧ T ≠ i1 ∧ T ≠ i2)
theorem zs_item {z TI TO i1 i2 l1 l2 : Addr} {i : Nat} {xs ys : Array Value} {x y : Value} {Q : Option Value → Shared → Prop} (D : ZipApart z TI TO i1 i2 l1 l2) (hs : ZS z TI TO i1 i2 l1 l2 i s.heap) (hl1 : s.heap.IsList l1 xs) (hl2 : s.heap.IsList l2 ys) (hx : xs[i]? = some x) (hy : ys[i]? = some y)
    (hQ : ∀ h', ZS z TI TO i1 i2 l1 l2 (i + 1) h' → IsPair h' s.heap.objs.size x y → h'.objs.size = s.heap.objs.size + 1 → (∀ c o, c ≠ z → c ≠ TO → c ≠ i1 → c ≠ i2 → s.heap.get? c = some o → h'.get? c = some o) → Q (some (.ref s.heap.objs.size)) { s with heap := h' }) :
    wpAny (model prog w) A (pyNext (.ref z)) Q E s := by
  obtain ⟨hTI, h1, h2, ⟨a, b, hTO⟩, hz⟩ := hs
  have lt : ∀ {c o}, s.heap.get? c = some o → s.heap.objs.size ≠ c := fun e => Nat.ne_of_gt (Heap.lt_size e)
  have li1 : s.heap.objs.size ≠ i1 := by obtain ⟨_, e, _⟩ := h1; exact lt e
  have li2 : s.heap.objs.size ≠ i2 := by obtain ⟨_, e, _⟩ := h2; exact lt e
  rcases hz with hz | ⟨T, c, o, hz, hT, t1, t2, t3, t4⟩
  · refine wpAny_pyNext_zip_item D hz hTI hTO h1 h2 hl1 hl2 hx hy fun h' a1 a2 a3 a4 a5 a6 hk => ?_
    exact hQ h' ⟨hk _ _ D.TIz D.TITO D.TIi1 D.TIi2 hTI, a3, a4, ⟨_, _, a2⟩, .inr ⟨_, false, _, a1, a5, lt hz, lt hTO, li1, li2⟩⟩ a5 a6 hk
  · refine zip2_item D hz hT hTI h1 h2 hl1 hl2 hx hy fun h' a1 a3 a4 a5 a6 hk => ?_
    exact hQ h' ⟨hk _ _ D.TIz D.TIi1 D.TIi2 hTI, a3, a4, ⟨_, _, hk _ _ D.TOz D.TOi1 D.TOi2 hTO⟩, .inr ⟨T, true, o, a1, hk _ _ t1 t3 t4 hT, t1, t2, t3, t4⟩⟩ a5 a6 fun c o c1 _ c3 c4 e => hk c o c1 c3 c4 e
theorem zs_end {z TI TO i1 i2 l1 l2 : Addr} {i : Nat} {xs ys : Array Value} {Q : Option Value → Shared → Prop} (hh : A.handled = none) (D : ZipApart z TI TO i1 i2 l1 l2) (hs : ZS z TI TO i1 i2 l1 l2 i s.heap) (hl1 : s.heap.IsList l1 xs) (hl2 : s.heap.IsList l2 ys) (hx : xs[i]? = none)
    (hQ : ∀ h', (∀ c o, c ≠ z → c ≠ TO → c ≠ i1 → c ≠ i2 → s.heap.get? c = some o → h'.get? c = some o) → Q none { s with heap := h' }) :
    wpAny (model prog w) A (pyNext (.ref z)) Q E s := by
  obtain ⟨hTI, h1, h2, ⟨a, b, hTO⟩, hz⟩ := hs
  rcases hz with hz | ⟨T, c, o, hz, hT, _⟩
  · exact wpAny_pyNext_zip_end hh D hz hTI hTO h1 h2 hl1 hl2 (.inl hx) hQ
  · exact zip2_end hh D hz hT hTI h1 h2 hl1 hl2 hx fun h' hk => hQ h' fun c o c1 _ c3 c4 e => hk c o c1 c3 c4 e
theorem ZS.frame {z TI TO i1 i2 l1 l2 S : Addr} {i : Nat} {h h' : Heap} {oS : Obj} (hs : ZS z TI TO i1 i2 l1 l2 i h) (hS : S ≠ z ∧ S ≠ TI ∧ S ≠ TO ∧ S ≠ i1 ∧ S ≠ i2) (k : ∀ c o, c ≠ S → h.get? c = some o → h'.get? c = some o) (eS : h'.get? S = some oS) : ZS z TI TO i1 i2 l1 l2 i h' := by
  obtain ⟨hTI, h1, h2, ⟨a, b, hTO⟩, hz⟩ := hs
  obtain ⟨s1, s2, s3, s4, s5⟩ := hS
  refine ⟨k _ _ s2.symm hTI, h1.at fun o e => k _ o s4.symm e, h2.at fun o e => k _ o s5.symm e, ⟨a, b, k _ _ s3.symm hTO⟩, ?_⟩
  rcases hz with hz | ⟨T, c, o, hz, hT, t⟩
  · exact .inl (k _ _ s1.symm hz)
  · by_cases hTS : T = S
    · subst hTS; exact .inr ⟨T, c, oS, k _ _ s1.symm hz, eS, t⟩
    · exact .inr ⟨T, c, o, k _ _ s1.symm hz, k _ _ hTS hT, t⟩
variable {R : Result → Shared → Prop} {K : Type} [DecidableEq K] {knd : KeyKind prog w K}
theorem code_dz {z TI TO i1 i2 l1 l2 S : Addr} (hh : A.handled = none) (D : ZipApart z TI TO i1 i2 l1 l2) (hS : S ≠ z ∧ S ≠ TI ∧ S ≠ TO ∧ S ≠ i1 ∧ S ≠ i2) (hSl : S ≠ l1 ∧ S ≠ l2) (ps : Nat → K × Value) (xs ys : Array Value) (hxy : xs.size = ys.size) (hb : xs.size ≤ sizeLine)
    (hkey : ∀ (j : Nat) x, xs[j]? = some x → knd.is (ps j).1 x = true) (hval : ∀ (j : Nat) y, ys[j]? = some y → (ps j).2 = y) :
    ∀ (k i : Nat) (c : Int) (s : Shared), xs.size = i + k → ZS z TI TO i1 i2 l1 l2 i s.heap → s.heap.IsList l1 xs → s.heap.IsList l2 ys → s.heap.DictOf knd S (accP ps i) →
      (∀ h' tk, (∀ b o, b ≠ S → b ≠ z → b ≠ TO → b ≠ i1 → b ≠ i2 → s.heap.get? b = some o → h'.get? b = some o) → h'.DictOf knd S (accP ps xs.size) → R (.ok (.ret .none)) { s with heap := h', toks := tk }) →
      codeAny (model prog w) A (.builtin "dict.update.loop" ⟨[.ref S, .ref z, rawInt c, .none], []⟩) R s
  | 0, i, c, s, hk, hz, hl1, hl2, hd, hR => by
    refine codeAny_builtin entry_dul ?_
    rw [Around.under_plainId plain_dul _]
    show wpAny _ A.in1 (pyNext (.ref z) >>= _) _ _ s
    refine wpAny_bind (zs_end (by simp [hh]) D hz hl1 hl2 (Array.getElem?_eq_none (by omega)) fun h' hm => ?_)
    show wpAny _ A.in1 (Builtin.Dict.addKeywords S [] >>= _) _ _ _
    refine wpAny_bind (wpAny_pure (wpAny_pure (hR h' s.toks (fun b o _ b1 b2 b3 b4 e => hm b o b1 b2 b3 b4 e) ?_)))
    rw [show xs.size = i by omega]
    exact hd.at fun o e => hm S o hS.1 hS.2.2.1 hS.2.2.2.1 hS.2.2.2.2 e
  | k + 1, i, c, s, hk, hz, hl1, hl2, hd, hR => by
    have hix : i < xs.size := by omega
    have hiy : i < ys.size := by omega
    refine codeAny_builtin entry_dul ?_
    rw [Around.under_plainId plain_dul _]
    show wpAny _ A.in1 (pyNext (.ref z) >>= _) _ _ s
    refine wpAny_bind (zs_item D hz hl1 hl2 (Array.getElem?_eq_getElem hix) (Array.getElem?_eq_getElem hiy) fun h' hz' hp hsz hm => ?_)
    have hS' : h'.DictOf knd S (accP ps i) := hd.at fun o e => hm S o hS.1 hS.2.2.1 hS.2.2.2.1 hS.2.2.2.2 e
    have hty : Shared.TypeIs { s with heap := h' } (.ref s.heap.objs.size) "tuple" := ⟨_, hp, rfl⟩
    refine wpAny_bind (wpAny_holding (wpAny_bind (wpAny_tryCatch ?_)))
    unfold Builtin.Dict.pairItems
    refine wpAny_bind (wpAny_typeOf hty ?_)
    rw [if_pos (by decide)]
    refine wpAny_bind (wpAny_seqItems hp rfl ?_)
    refine wpAny_pure ?_
    have hroom : (accP ps i).length ≤ sizeLine := by have := accP_len ps i; omega
    refine wpAny_holding (wpAny_dictSet_pairs (hkey i _ (Array.getElem?_eq_getElem hix)) hS' (fun h2 hd2 hsb => ?_) hroom)
    have hacc : accP ps (i + 1) = stored (accP ps i) (ps i).1 ys[i] := by rw [accP, hval i _ (Array.getElem?_eq_getElem hiy)]
    have hl1' : h'.IsList l1 xs := hl1.at fun o e => hm _ o D.l1z D.l1TO D.l1i1 D.l1i2 e
    have hl2' : h'.IsList l2 ys := hl2.at fun o e => hm _ o D.l2z D.l2TO D.l2i1 D.l2i2 e
    have k2 : ∀ c o, c ≠ S → h'.get? c = some o → h2.get? c = some o := fun c o hc e => by rw [hsb.2 c hc]; exact e
    obtain ⟨oS, eS⟩ : ∃ o, h2.get? S = some o := by obtain ⟨o, _, _, e, _⟩ := hd2; exact ⟨o, e⟩
    refine wpAny_pure ⟨plainId_quiet plain_dul _, code_dz hh D hS hSl ps xs ys hxy hb hkey hval k (i + 1) (c + 1) _ (by omega) (hz'.frame hS k2 eS) (hl1'.at fun o e => k2 _ o hSl.1.symm e) (hl2'.at fun o e => k2 _ o hSl.2.symm e) (by rw [hacc]; exact hd2) fun h3 tk3 hm3 hd3 => ?_⟩
    exact hR h3 tk3 (fun b o b0 b1 b2 b3 b4 e => hm3 b o b0 b1 b2 b3 b4 (k2 _ _ b0 (hm b o b1 b2 b3 b4 e))) hd3
theorem call_dict_zip {z TI TO i1 i2 l1 l2 : Addr} {ps : Nat → K × Value} {xs ys : Array Value} {Q : Value → Shared → Prop} (hh : A.handled = none) (hTT : TI ≠ TO) (h12 : i1 ≠ i2) (hz : IsZip s.heap z TI TO .none) (hTI : IsPair s.heap TI (.ref i1) (.ref i2)) (hTO : IsPair s.heap TO .none .none) (h1 : s.heap.IsListIter i1 l1 0) (h2 : s.heap.IsListIter i2 l2 0) (hl1 : s.heap.IsList l1 xs) (hl2 : s.heap.IsList l2 ys)
    (hxy : xs.size = ys.size) (hb : xs.size ≤ sizeLine) (hkey : ∀ (j : Nat) x, xs[j]? = some x → knd.is (ps j).1 x = true) (hval : ∀ (j : Nat) y, ys[j]? = some y → (ps j).2 = y)
    (h : ∀ h' tk, (∀ b o, b ≠ z → b ≠ TO → b ≠ i1 → b ≠ i2 → s.heap.get? b = some o → h'.get? b = some o) → h'.DictOf knd s.heap.objs.size (accP ps xs.size) → Q (.ref s.heap.objs.size) { s with heap := h', toks := tk }) :
    wpAny (model prog w) A (call (.type "dict") [.ref z]) Q E s := by
  have D := L3.zip_apart hTT h12 hz hTI hTO h1 h2 hl1 hl2
  refine callType_codes (Q₁ := fun (obj : Value) (s₁ : Shared) => obj = Value.ref s.heap.objs.size ∧ s₁ = { s with heap := s.heap.push { cls := .type "dict", data := .dict #[] } }) PySem.F.kt_called_dict (PySem.F.kt_typeCall_dict_1 _) PySem.F.entry_dict_init (kt_code_dict_new _ ⟨rfl, rfl⟩) ?_
  rintro obj s₁ ⟨rfl, rfl⟩
  have hnew : (s.heap.push { cls := .type "dict", data := .dict #[] }).DictOf knd s.heap.objs.size [] := Heap.DictOf.new s.heap
  have up : ∀ c o, s.heap.get? c = some o → (s.heap.push { cls := .type "dict", data := .dict #[] }).get? c = some o := fun c o e => Heap.get?_push_of_some _ e
  have hz' := up _ _ hz
  have hty : Shared.TypeIs { s with heap := s.heap.push { cls := .type "dict", data := .dict #[] } } (.ref z) "zip" := ⟨_, hz', rfl⟩
  refine ⟨hnew.typeIs, PySem.F.args_dict_init_2 _ _, ?_⟩
  unfold Builtin.«dict.__init__»
  refine wpAny_bind ?_
  unfold Builtin.Dict.selfAndRest
  refine wpAny_bind (wpAny_notOrdered_dict hnew.typeIs ?_)
  show wpAny _ _ (pure (s.heap.objs.size, [Value.ref z])) _ _ _
  refine wpAny_pure ?_
  show wpAny _ _ (Builtin.Dict.updateFrom "dict.__init__" s.heap.objs.size (.ref z) [] .none) _ _ _
  unfold Builtin.Dict.updateFrom
  refine wpAny_bind (wpAny_typeOf hty ?_)
  rw [if_pos (by decide)]
  refine wpAny_bind (getAttrQ_zip_keys hz' (by simp [hh]) (fun hp2 tk2 k2 => ?_))
  simp only [Option.isNone_none, if_true]
  refine wpAny_bind (wpAny_rule ?_)
  have k02 : ∀ c o, s.heap.get? c = some o → hp2.get? c = some o := fun c o e => k2 _ _ (up _ _ e)
  refine wpAny_bind (wpAny_pyIter_zip (k02 _ _ hz) ?_)
  have lt : ∀ {c o}, s.heap.get? c = some o → s.heap.objs.size ≠ c := fun e => Nat.ne_of_gt (Heap.lt_size e)
  have l1' : s.heap.objs.size ≠ i1 := by obtain ⟨_, e, _⟩ := h1; exact lt e
  have l2' : s.heap.objs.size ≠ i2 := by obtain ⟨_, e, _⟩ := h2; exact lt e
  have l3' : s.heap.objs.size ≠ l1 := by obtain ⟨_, e, _⟩ := hl1; exact lt e
  have l4' : s.heap.objs.size ≠ l2 := by obtain ⟨_, e, _⟩ := hl2; exact lt e
  refine wpAny_pure ⟨plainId_quiet plain_dul _, code_dz (knd := knd) (by simp [hh]) D ⟨lt hz, lt hTI, lt hTO, l1', l2'⟩ ⟨l3', l4'⟩ ps xs ys hxy hb hkey hval xs.size 0 0 _ (by omega) ⟨k02 _ _ hTI, h1.at fun o e => k02 _ o e, h2.at fun o e => k02 _ o e, ⟨_, _, k02 _ _ hTO⟩, .inl (k02 _ _ hz)⟩ (hl1.at fun o e => k02 _ o e) (hl2.at fun o e => k02 _ o e) (hnew.at fun o e => k2 _ o e) fun h3 tk3 hm3 hd3 => ?_⟩
  exact ⟨rfl, h h3 tk3 (fun b o b1 b2 b3 b4 e => hm3 b o (fun z' => lt e z'.symm) b1 b2 b3 b4 (k02 _ _ e)) hd3⟩
end
end HT

/-! dict(zip(xs, ys)) as an expression -/
namespace L3
open PySem PySem.Spec PyProof.Rows L2
section
variable {X : Cx}
/-- the pairs of a list of keys and a list of values -/
def zipK (ks : List Int) (ys : List V) : List (Key × V) := (ks.zip ys).map fun p => ((Sum.inl p.1 : Key), p.2)
def tDictZ (ta : TA) : TE := fun σ H Q => ta σ H fun vs H1 => ∃ a b ks ys, vs = [.ref a, .ref b] ∧ H1 a = some (.lst (ks.map V.int)) ∧ H1 b = some (.lst ys) ∧ ks.length = ys.length ∧ New H1 (.dK (mergeK [] (zipK ks ys))) Q
theorem pe_dictZ {a b : Expr} {ta : TA} {p p2 pos pos2 : Pos} (hc : X.calm = true) (hg : Gl X "dict") (hm : X.mg "dict" = none) (hv : bootBuiltins "dict" = some (.type "dict")) (hg2 : Gl X "zip") (hm2 : X.mg "zip" = none) (ha : PA X [a, b] ta) (hs : starEach [a, b] X.env = [(false, eval a X.env), (false, eval b X.env)]) (hs2 : starEach [b] X.env = [(false, eval b X.env)]) :
    PE X (.Call (.Name "dict" p) [.Call (.Name "zip" p2) [a, b] [] pos2] [] pos) (tDictZ ta) := by
  intro pins s σ H Q I h
  refine wpAny_Call_Name_kw (ld_blt I hg hm hv ?_)
  refine PyProof.Rows.callWith_type1 ?_ rfl rfl
  show wpAny _ _ (spliced ((false, eval (.Call (.Name "zip" p2) [a, b] [] pos2) X.env) :: backTo pos (starEach [] X.env))) _ _ s
  refine Calls.spliced_cons ?_
  refine Call_ (ld_blt I hg2 hm2 bt_zip' (PyProof.Rows.callWith_type1 (thn (ha pos2 pins s σ H _ I h) fun us s1 ⟨vs, H1, I1, r1, q1⟩ => ?_) (by rw [hs, hs2]) (by rw [hs2]; rfl)))
  obtain ⟨l1, l2, ks, ys, e, hl1, hl2, hlen, q⟩ := q1
  subst e
  cases r1 with
  | cons r rr =>
    cases rr with
    | cons r' rr =>
      cases rr
      cases r
      cases r'
      obtain ⟨z1, its1, n1, rv1, ho1⟩ := I1.hok l1 _ hl1
      obtain ⟨z2, its2, n2, rv2, ho2⟩ := I1.hok l2 _ hl2
      refine call_zip_2 (xs := its1.toArray) (ys := its2.toArray) ⟨_, ho1, rfl, _, rfl⟩ ⟨_, ho2, rfl, _, rfl⟩ fun h' hz hTI hTO hi1 hi2 hsz hk => ?_
      refine Calls.spliced_nil ?_
      have I2 : Inv X pins σ H1 { s1 with heap := h' } := I1.kept (t' := s1.toks) hk
      have hL1 : h'.IsList l1 its1.toArray := ⟨_, hk _ _ ho1, rfl, _, rfl⟩
      have hL2 : h'.IsList l2 its2.toArray := ⟨_, hk _ _ ho2, rfl, _, rfl⟩
      have e1 := rv1.length
      have e2 := rv2.length
      rw [List.length_map] at e1
      let us : List (Key × Value) := (ks.zip its2).map fun p => ((Sum.inl p.1 : Key), p.2)
      have hus : us.length = ks.length := by simp [us]; omega
      have hKV : KV (zipK ks ys) us := by
        have : ∀ (ks : List Int) (ys : List V) (its : List Value), Vals ys its → KV (zipK ks ys) ((ks.zip its).map fun p => ((Sum.inl p.1 : Key), p.2)) := by
          intro ks ys its r
          induction r generalizing ks with
          | nil => cases ks <;> exact .nil
          | cons r1 _ ih =>
            cases ks with
            | nil => exact .nil
            | cons k ks => exact .cons ⟨rfl, r1⟩ (ih ks)
        exact this ks ys its2 rv2
      refine HT.call_dict_zip (knd := mixKind X.prog X.w) (ps := fun j => us.getD j (Sum.inl 0, Value.none)) (I2.ok.hd hc) (Nat.ne_of_lt (Nat.lt_succ_self _)) (Nat.ne_of_lt (Nat.lt_succ_self _)) hz hTI hTO hi1 hi2 hL1 hL2 (by simp; omega) (by simp; omega) (fun j x hx => ?_) (fun j y hy => ?_) fun h3 tk3 hk3 hd3 => ?_
      · have hx' : its1[j]? = some x := by simpa using hx
        have hj : j < its1.length := (List.getElem?_eq_some_iff.mp hx').1
        have hkj : ks[j]? = some (ks[j]'(by omega)) := List.getElem?_eq_getElem (by omega)
        obtain ⟨u, hu, ru⟩ := rv1.get (show (ks.map V.int)[j]? = some (V.int (ks[j]'(by omega))) by rw [List.getElem?_map, hkj]; rfl)
        rw [hx'] at hu
        cases hu
        have huj : us[j]? = some ((Sum.inl (ks[j]'(by omega)) : Key), its2[j]'(by omega)) := by
          simp only [us]
          rw [List.getElem?_map, List.getElem?_zip_eq_some (z := (ks[j]'(by omega), its2[j]'(by omega))) |>.mpr ⟨hkj, List.getElem?_eq_getElem (by omega)⟩]; rfl
        rw [List.getD_eq_getElem?_getD, huj]
        exact kV_is ru
      · have hy' : its2[j]? = some y := by simpa using hy
        have hj : j < its2.length := (List.getElem?_eq_some_iff.mp hy').1
        have hkj : ks[j]? = some (ks[j]'(by omega)) := List.getElem?_eq_getElem (by omega)
        have huj : us[j]? = some ((Sum.inl (ks[j]'(by omega)) : Key), y) := by
          simp only [us]
          rw [List.getElem?_map, List.getElem?_zip_eq_some (z := (ks[j]'(by omega), y)) |>.mpr ⟨hkj, hy'⟩]; rfl
        rw [List.getD_eq_getElem?_getD, huj]; rfl
      · have hn : its1.toArray.size = us.length := by rw [List.size_toArray, hus]; omega
        rw [hn, accP_eq _ us us.length (Nat.le_refl _), List.take_length] at hd3
        have hml := length_merge (zipK ks ys) []
        have hzl : (zipK ks ys).length = ks.length := by simp [zipK]; omega
        rw [List.length_nil, Nat.zero_add, hzl] at hml
        have hge : s1.heap.objs.size ≤ h'.objs.size := by rw [hsz]; exact Nat.le_add_right _ _
        have hbig := I1.big
        refine ⟨.ref h'.objs.size, _, I1.laid (t' := tk3) (o := .dK (mergeK [] (zipK ks ys))) (fun b o e => ?_) hge (dk_new (by omega) ?_ (kv_fold hKV .nil) hd3), rfl, q.at (I1.hok.fresh hge)⟩
        · have hlt := Heap.lt_size e
          have up : ∀ n : Nat, b ≠ s1.heap.objs.size + n := fun n => Nat.ne_of_lt (Nat.lt_of_lt_of_le hlt (Nat.le_add_right _ n))
          exact hk3 b o (up 4) (up 3) (up 0) (up 1) (hk _ _ e)
        · simpa using Nat.ne_of_gt (Nat.lt_of_lt_of_le hbig hge)
theorem qDictZ {a b : Expr} {ta : TA} {p p2 pos pos2 : Pos} (hg : Gl X "dict") (hm : X.mg "dict" = none) (hv : bootBuiltins "dict" = some (.type "dict")) (hg2 : Gl X "zip") (hm2 : X.mg "zip" = none) (ha : QA X [a, b] ta) (h : notStar a = true := by rfl) (h' : notStar b = true := by rfl) (hc : X.calm = true := by rfl) :
    QE X (.Call (.Name "dict" p) [.Call (.Name "zip" p2) [a, b] [] pos2] [] pos) (tDictZ ta) :=
  .mk (pe_dictZ hc hg hm hv hg2 hm2 ha.un (by rw [star_cons h, star_cons h', star_nil]) (by rw [star_cons h', star_nil]))
end
end L3

namespace L3
open PySem PySem.Spec PyProof.Rows L2
section
variable {X : Cx}
/-- d[k] += e -/
theorem sdaug {k : Nat} {o i value : Expr} {td ty tv : TE} {tpos pos : Pos} {A : Around} (hr : Room k A) (ho : QE X o td) (hi : QE X i ty) (hv : QE X value tv)
    (ha : ∀ ov iv new, augStore i ov iv new = (do holding [new, ov, iv] (setItem ov iv new); release [new, ov, iv] []; pure .next) := by intros; rfl) (hA : X.A = A := by rfl) :
    QS X (.AugAssign (.Subscript o i tpos) .Add value pos) (sDAug td ty tv L2.rAdd) := .mk (ps_daug (by rw [hA]; exact hu_of hr) ho.un hi.un hv.un in_add ha)
end
end L3

/-! for x in d.values(): the dict is frozen as it stands -/
namespace L3
open PySem PySem.Spec PyProof.Rows L2
def Itw (ob : Obj) (a : Addr) (kvs : List (Key × V)) : It :=
  ⟨fun i H => H a = some (.frz ob (.dK kvs)) ∧ i < kvs.length, fun i H v H' => H' = H ∧ ∃ k, kvs[i]? = some (k, v), fun i H => H a = some (.frz ob (.dK kvs)) ∧ kvs.length ≤ i⟩
theorem kv_at {kvs : List (Key × V)} {vs : List (Key × Value)} (r : KV kvs vs) : ∀ {i : Nat} {k : Key} {v : Value}, vs[i]? = some (k, v) → ∃ x, kvs[i]? = some (k, x) ∧ RelV x v := by
  unfold KV at r
  induction r with
  | nil => intro i k v e; simp at e
  | @cons p q ps qs h t ih =>
    intro i k v e
    cases i with
    | zero =>
      simp at e
      subst e
      obtain ⟨h1, h2⟩ := h
      exact ⟨p.2, by rw [List.getElem?_cons_zero, ← (show p.1 = k from h1)], h2⟩
    | succ i => simpa using ih (by simpa using e)
theorem turn_vals {P : Program} {w : World} {K : PySem.W.Frag} {tg : Expr} (ob : Obj) (a it : Addr) (kvs : List (Key × V)) (hne : a ≠ it) : Turn P w K tg (Itw ob a kvs) [it] it (fun i h => h.IsValIter it a i kvs.length (epOf ob)) where
  mem := by simp
  obj := fun i h st b hb => by
    have e : b = it := by simpa using hb
    subst e
    obtain ⟨o, e, c, d⟩ := st
    exact ⟨o, e, fun v z => by rw [d] at z; cases z⟩
  keep := fun i h h' st k => by
    obtain ⟨o, e, r⟩ := st
    exact ⟨o, k it (by simp) o e, r⟩
  item := by
    intro X hP hw hK hc i pins s σ H E I hf st hg
    subst hP hw hK
    obtain ⟨e, hi⟩ := hg
    obtain ⟨vs, rel, hs, hd⟩ := frz_at I.hok e
    have hlen := rel.length
    obtain ⟨f0, f1, f2, f3, f4, f5⟩ := hf it (by simp)
    obtain ⟨⟨k, y⟩, hk⟩ : ∃ p, vs[i]? = some p := ⟨vs[i]'(by omega), List.getElem?_eq_getElem (by omega)⟩
    obtain ⟨x, hx, rx⟩ := kv_at rel hk
    have st' : s.heap.IsValIter it a i vs.length (epOf ob) := by rw [← hlen]; exact st
    refine wpAny_pyNext_values_item st' hd hk fun h' hit' sb => ?_
    have I1 : Inv X pins σ H { s with heap := h' } := I.turned (t' := s.toks) (fun b o hb e => (sb.2 b hb).trans e) f0 f1 f3 f4 f5
    rw [← hlen] at hit'
    obtain ⟨o, e', c, d⟩ := id hit'
    exact ⟨y, rfl, go_of (s := { s with heap := h' }) e' c d (by decide) ⟨x, H, I1, rx, ⟨rfl, k, hx⟩, hit', fun b hb => (hf b hb).1⟩⟩
  done := by
    intro X hP hw hK hc i pins s σ H E I hf st hg
    subst hP hw hK
    obtain ⟨e, hi⟩ := hg
    obtain ⟨vs, rel, hs, hd⟩ := frz_at I.hok e
    have hlen := rel.length
    obtain ⟨f0, f1, f2, f3, f4, f5⟩ := hf it (by simp)
    have st' : s.heap.IsValIter it a i vs.length (epOf ob) := by rw [← hlen]; exact st
    exact wpAny_pyNext_values_end (I.ok.hd hc) st' hd (List.getElem?_eq_none (by omega)) fun h' eb => ⟨rfl, I.turned (t' := s.toks) (fun b o hb e => eb b o hb e) f0 f1 f3 f4 f5⟩
  self := fun _ _ _ _ _ st h => wpAny_pyIter_valiter st h
section
variable {X : Cx} {tg : Expr}
def iVals (tl : TE) : TI := fun σ H R => tl σ H fun x H1 => ∃ a kvs, x = .ref a ∧ Rd H1 a (.dK kvs) ∧ ∀ ob H4, H4 a = some (.frz ob (.dK kvs)) → Same (rm a H1) H4 → R (Itw ob a kvs) H4
theorem pi_vals {o : Expr} {to : TE} {apos cpos : Pos} (ho : PE X o to) (hbase : attributeBase o "values" X.env (eval o X.env) = eval o X.env := by rfl) (hline : (apos.endLine == cpos.line) = true := by rfl) : PI X tg (.Call (.Attribute o "values" apos) [] [] cpos) (iVals to) := by
  intro pins s σ H R I h
  refine wpAny_Call_method0_late hbase hline (thn (ho pins s σ H _ I h) fun v s1 ⟨x, H1, I1, r1, q1⟩ => ?_)
  obtain ⟨a, kvs, e, hrd, q⟩ := q1
  subst e
  cases r1
  have key : ∀ (H2 : Hp) (ob : Obj), Inv X pins σ H2 s1 → H2 a = some (.frz ob (.dK kvs)) → R (Itw ob a kvs) H2 → MethodOn X.prog X.w X.A "values" cpos (.ref a) [] (fun v s1 => wpAny (model X.prog X.w) X.A (pyIter v) (PIE X pins σ tg R) X.xe s1) X.xe s1 := fun H2 ob I2 e q => by
    obtain ⟨vs, rel, hs, hd⟩ := frz_at I2.hok e
    have hlen := rel.length
    obtain ⟨o, es, ho', hc', r'⟩ := id hd
    have hD : s1.heap.DictOf (mixKind X.prog X.w) a vs := ⟨o, es, _, ho', hc', r'⟩
    refine ⟨"dict", "dict.values", PySem.F.plainAttrs_dict, PySem.F.slot_dict_values, PySem.F.type_dict_values, ⟨o, ho', hc'.1⟩, fun a' e2 => by cases e2; exact ⟨o, ho', hc'.2.1⟩, Calls.callWith_builtin rfl (PySem.evalArgs_none ?_)⟩
    refine call_meetsIn PySem.F.slot_dict_values hD.typeIs PySem.F.entry_dict_values (PySem.F.args_dict_values_1 _) (meets_dict_values (mixKind X.prog X.w) a hs) ⟨⟨vs, hD⟩, ?_⟩
    have I3 : Inv X pins σ H2 { s1 with heap := s1.heap.push { cls := .type "dict_values", data := .fields #[.ref a] } } := I2.kept (t' := s1.toks) fun b o e => Heap.get?_push_of_some _ e
    obtain ⟨vs3, rel3, _, hd3⟩ := frz_at I3.hok e
    have hlen3 := rel3.length
    refine wpAny_pyIter_values (d := a) ⟨_, Heap.get?_push_size _ rfl, rfl, rfl⟩ hd3 ?_
    refine ⟨_, [(s1.heap.push { cls := .type "dict_values", data := .fields #[.ref a] }).objs.size], _, _, H2, rfl, I3.kept (t' := s1.toks) fun b o e => Heap.get?_push_of_some _ e, turn_vals ob a _ kvs (Nat.ne_of_lt hd3.lt_size), ⟨_, Heap.get?_push_size _ rfl, rfl, by rw [hlen3]; rfl⟩, fun b hb => ?_, q⟩
    rw [List.mem_singleton] at hb
    subst hb
    exact I3.fpOk (Nat.le_refl _) (I3.hok.fresh (Nat.le_refl _))
  rcases hrd with e | ⟨ob, e⟩
  · obtain ⟨z, hs, vs, rel, o, es, ep, ho, r⟩ := (show ObjOk X.prog X.w H1 s1.heap a (.dK kvs) from I1.hok a _ e)
    have I2 : Inv X pins σ (upd H1 a (.frz o (.dK kvs))) { s1 with heap := s1.heap, toks := s1.toks } := I1.write (t' := s1.toks) (by rw [e]; exact True.intro) (.inl rfl) (fun b u _ q => q) ⟨o, ho⟩ ⟨ho, z, hs, vs, rel, o, es, ep, ho, r⟩
    exact key _ o I2 upd_same (q o _ upd_same (same_upd rm_same rm_self))
  · exact key _ ob I1 e (q ob _ e rm_same)
theorem ivals {o : Expr} {to : TE} {apos cpos : Pos} (ho : QE X o to) (hbase : attributeBase o "values" X.env (eval o X.env) = eval o X.env := by rfl) (hline : (apos.endLine == cpos.line) = true := by rfl) : QI X tg (.Call (.Attribute o "values" apos) [] [] cpos) (iVals to) := .mk (pi_vals ho.un hbase hline)
variable {g : TG} {tt : TT} {te : TE} {acc : Addr} {σ0 : L2.St} {H0 : Hp} {Q : Hp → Prop}
/-- by the values of the frozen dict -/
theorem comp_vals {ob : Obj} {a : Addr} {kvs : List (Key × V)} (Pv : Nat → List V → L2.St → Hp → Prop) (h0 : Pv 0 [] σ0 H0) (hl : ∀ i ys σ H, Pv i ys σ H → H a = some (.frz ob (.dK kvs)))
    (hs : ∀ i ys k x σ H, kvs[i]? = some (k, x) → i < kvs.length → Pv i ys σ H → g x σ H fun σ2 H2 => tt σ2 H2 fun b H3 => if b = true then te σ2 H3 (CPost Pv acc kvs.length i σ2) else CSkip Pv kvs.length i σ2 H3)
    (hd : ∀ ys σ H, Pv kvs.length ys σ H → Q H) : CompW (Itw ob a kvs) g tt te acc σ0 H0 Q := by
  refine ⟨fun i m σ H => m = kvs.length - i ∧ i ≤ kvs.length ∧ ∃ ys, Pv i ys σ H, ⟨kvs.length, by simp, Nat.zero_le _, [], h0⟩, ?_⟩
  rintro i m σ H ⟨rfl, hi, ys, p⟩
  have q := hl i ys σ H p
  by_cases hlt : i < kvs.length
  · refine .inr ⟨⟨q, hlt⟩, fun x H1 y => ?_⟩
    obtain ⟨e, k, hk⟩ := y
    subst e
    have z := hs i ys k x σ _ hk hlt p
    unfold CPost CSkip at z
    exact z
  · have e : i = kvs.length := by omega
    subst e
    exact .inl ⟨⟨q, Nat.le_refl _⟩, hd ys σ H p⟩
end
end L3

/-! max(d.values()) of ints -/
namespace L3
open PySem PySem.Spec PyProof.Rows L2
section
variable {X : Cx}
def tMaxV (tl : TE) : TE := fun σ H Q => tl σ H fun x H1 => ∃ (a : Addr) (kvs : List (Key × V)) (ns : List Int), x = .ref a ∧ Rd H1 a (.dK kvs) ∧ kvs.map (·.2) = ns.map V.int ∧ 0 < ns.length ∧ ∀ M, M ∈ ns → (∀ b ∈ ns, b ≤ M) → Q (.int M) H1
theorem vals_maxV {prog : Program} {w : World} {A : Around} {E : Value → Shared → Prop} {s : Shared} {a vw : Addr} {vs : List (Key × Value)} {ns : List Int} {ep : Nat} {Q : Value → Shared → Prop} (hh : A.handled = none) (hv : s.heap.IsValuesView vw a) (hd : s.heap.DictAt (mixKind prog w) a vs ep)
    (hlen : vs.length = ns.length) (hi : ∀ (i : Nat) (k : Key) (v : Value), vs[i]? = some (k, v) → ∃ t, v = .int (ns.getD i 0) t) (h0 : 0 < ns.length)
    (h : ∀ M t h' tk, M ∈ ns → (∀ b ∈ ns, b ≤ M) → (∀ b o, s.heap.get? b = some o → h'.get? b = some o) → Q (.int M t) { s with heap := h', toks := tk }) : wpAny (model prog w) A (call (.builtin "max") [.ref vw]) Q E s := by
  refine call_max_walk (wpAny_pyIter_values hv hd ?_)
  have hlt := hd.lt_size
  refine ⟨_, _, _, _, _, _, fun i j => decide (ns.getD i 0 > ns.getD j 0), rfl, Walks.dictValues (knd := mixKind prog w) (A := A.in1) hh _ a (Nat.ne_of_lt hlt) vs ep, ⟨⟨_, Heap.get?_push_size _ rfl, rfl, rfl⟩, hd.at' fun o e => Heap.get?_push_of_some _ e⟩, fun b hb => ?_, by omega, CmpOf.ints_gt (fun i => ns.getD i 0) (fun i v ⟨k, hP⟩ => hi i k v hP), fun v h' tk ⟨k, hP⟩ hk => ?_⟩
  · show b < (s.heap.push _).objs.size
    rw [Heap.size_push]
    simp only [List.mem_cons, List.not_mem_nil, or_false] at hb
    rcases hb with rfl | rfl
    · exact Nat.lt_succ_self _
    · exact Nat.lt_succ_of_lt hlt
  · obtain ⟨t, rfl⟩ := hi _ k v hP
    obtain ⟨h1, h2⟩ := argBest_gt (fun i => ns.getD i 0) (vs.length - 1)
    refine h _ t h' tk ?_ (fun b hb => ?_) fun b o e => hk b o (fun hm => ?_) (Heap.get?_push_of_some _ e)
    · rw [List.getD_eq_getElem?_getD, List.getElem?_eq_getElem (by omega)]
      exact List.getElem_mem _
    · obtain ⟨j, hj, rfl⟩ := List.getElem_of_mem hb
      have := h2 j (by omega)
      rw [List.getD_eq_getElem?_getD, List.getElem?_eq_getElem hj] at this
      exact this
    · have e1 : b = s.heap.objs.size := by simpa using hm
      rw [e1] at e
      exact absurd (Heap.lt_size e) (Nat.lt_irrefl _)
theorem pe_maxV {o : Expr} {to : TE} {apos cpos p pos : Pos} (hc : X.calm = true) (hg : Gl X "max") (hm : X.mg "max" = none) (hv : bootBuiltins "max" = some (.builtin "max")) (ho : PE X o to) (hbase : attributeBase o "values" X.env (eval o X.env) = eval o X.env := by rfl) (hline : (apos.endLine == cpos.line) = true := by rfl) :
    PE X (.Call (.Name "max" p) [.Call (.Attribute o "values" apos) [] [] cpos] [] pos) (tMaxV to) := by
  intro pins s σ H Q I h
  refine Call_ (ld_blt I hg hm hv (Calls.callWith_builtin rfl (Calls.evalArgs_plain (Calls.spliced_cons ?_))))
  refine wpAny_Call_method0_late hbase hline (thn (ho pins s σ H _ I h) fun v s1 ⟨x, H1, I1, r1, q1⟩ => ?_)
  obtain ⟨a, kvs, ns, e, hrd, hns, h0, q⟩ := q1
  subst e
  cases r1
  obtain ⟨z, hs, vs, rel, dd⟩ := dk_rd I1.hok hrd
  obtain ⟨o', es, ep, ho', hc', r'⟩ := id dd
  have hlen := rel.length
  have hlk : kvs.length = ns.length := by
    have := congrArg List.length hns
    rwa [List.length_map, List.length_map] at this
  have hat : ∀ (i : Nat) (k : Key) (v : Value), vs[i]? = some (k, v) → ∃ t, v = .int (ns.getD i 0) t := fun i k v e => by
    obtain ⟨y, hy, ry⟩ := kv_at rel e
    have h1 : (kvs.map (·.2))[i]? = some y := by rw [List.getElem?_map, hy]; rfl
    rw [hns, List.getElem?_map] at h1
    obtain ⟨n, hn, rfl⟩ := Option.map_eq_some_iff.mp h1
    rw [List.getD_eq_getElem?_getD, hn]
    exact ry
  refine ⟨"dict", "dict.values", PySem.F.plainAttrs_dict, PySem.F.slot_dict_values, PySem.F.type_dict_values, ⟨o', ho', hc'.1⟩, fun a' e2 => by cases e2; exact ⟨o', ho', hc'.2.1⟩, Calls.callWith_builtin rfl (PySem.evalArgs_none ?_)⟩
  refine call_meetsIn PySem.F.slot_dict_values dd.typeIs PySem.F.entry_dict_values (PySem.F.args_dict_values_1 _) (meets_dict_values (mixKind X.prog X.w) a hs) ⟨⟨vs, dd⟩, ?_⟩
  refine Calls.spliced_nil ?_
  have dd2 : (s1.heap.push { cls := .type "dict_values", data := .fields #[.ref a] }).DictAt (mixKind X.prog X.w) a vs ep := ⟨o', es, Heap.get?_push_of_some _ ho', hc', r'⟩
  refine vals_maxV (I1.ok.hd hc) ⟨_, Heap.get?_push_size _ rfl, rfl, rfl⟩ dd2 (by omega) hat h0 fun M t h' tk m1 m2 hk => ?_
  exact ⟨.int M, H1, I1.kept (t' := tk) fun b o e => hk b o (Heap.get?_push_of_some _ e), ⟨t, rfl⟩, q M m1 m2⟩
theorem qMaxV {o : Expr} {to : TE} {apos cpos p pos : Pos} (hg : Gl X "max") (hm : X.mg "max" = none) (ho : QE X o to) (hc : X.calm = true := by rfl) (hbase : attributeBase o "values" X.env (eval o X.env) = eval o X.env := by rfl) (hline : (apos.endLine == cpos.line) = true := by rfl) :
    QE X (.Call (.Name "max" p) [.Call (.Attribute o "values" apos) [] [] cpos] [] pos) (tMaxV to) := .mk (pe_maxV hc hg hm bt_max ho.un hbase hline)
end
end L3

/-! len(set(xs)) of a list of numbers -/
namespace L3
open PySem PySem.Spec PyProof.Rows L2
theorem met_nodup (val : Nat → Int) : ∀ i, (firstMet val i).Nodup
  | 0 => by rw [firstMet_zero]; exact List.nodup_nil
  | i + 1 => by
    rw [firstMet_succ]
    have ih := met_nodup val i
    unfold step_dedup
    split
    · exact ih
    · rename_i h
      refine List.nodup_append.mpr ⟨ih, by simp, fun a ha b hb => ?_⟩
      rw [List.mem_singleton] at hb
      intro e
      apply h
      rw [List.any_eq_true]
      exact ⟨a, ha, by rw [e, hb]; simp⟩
theorem range_getD (ns : List Int) : (List.range ns.length).map (fun i => ns.getD i 0) = ns := by
  apply List.ext_getElem
  · simp
  · intro i h1 h2
    rw [List.getElem_map, List.getElem_range, List.getD_eq_getElem?_getD, List.getElem?_eq_getElem h2]; rfl
theorem met_one (ns : List Int) : 1 < (firstMet (fun i => ns.getD i 0) ns.length).length ↔ ∃ i ∈ ns, ∃ j ∈ ns, i ≠ j := by
  have hm : ∀ k, k ∈ firstMet (fun i => ns.getD i 0) ns.length ↔ k ∈ ns := fun k => by
    have := firstMet_any (fun i => ns.getD i 0) ns.length k
    rw [range_getD] at this
    have key : ∀ l : List Int, l.any (· == k) = true ↔ k ∈ l := fun l => by
      rw [List.any_eq_true]
      constructor
      · rintro ⟨x, hx, e⟩
        rw [← eq_of_beq e]; exact hx
      · intro h; exact ⟨k, h, by simp⟩
    rw [← key, ← key, this]
  have hn := met_nodup (fun i => ns.getD i 0) ns.length
  generalize firstMet (fun i => ns.getD i 0) ns.length = l at hm hn
  constructor
  · intro h
    match l, h, hn with
    | a :: b :: l, _, hn =>
      refine ⟨a, (hm a).mp (by simp), b, (hm b).mp (by simp), ?_⟩
      rw [List.nodup_cons] at hn
      intro e
      exact hn.1 (by rw [e]; simp)
  · rintro ⟨i, hi, j, hj, hne⟩
    have h1 := (hm i).mpr hi
    have h2 := (hm j).mpr hj
    match l, h1, h2 with
    | [a], h1, h2 =>
      rw [List.mem_singleton] at h1 h2
      exact absurd (h1.trans h2.symm) hne
    | a :: b :: l, _, _ => simp
section
variable {X : Cx}
def tLenSet (K : PySem.W.Frag) (ta : TA) : TE := fun σ H Q => ta σ H fun vs H1 => ∃ (a : Addr) (ns : List Int), vs = [.ref a] ∧ SqL K H1 a (ns.map V.int) ∧ ns.length ≤ 1000 ∧ ∀ m : Nat, (1 < m ↔ ∃ i ∈ ns, ∃ j ∈ ns, i ≠ j) → Q (.int (m : Int)) H1
theorem pe_lenSet {e : Expr} {ta : TA} {p1 p2 pos1 pos : Pos} (hc : X.calm = true) (hg : Gl X "len") (hm : X.mg "len" = none) (hg2 : Gl X "set") (hm2 : X.mg "set" = none) (ha : PA X [e] ta) (hs : starEach [e] X.env = [(false, eval e X.env)]) :
    PE X (.Call (.Name "len" p1) [.Call (.Name "set" p2) [e] [] pos1] [] pos) (tLenSet X.K ta) := by
  intro pins s σ H Q I h
  refine Call_ (ld_blt I hg hm bt_len (Calls.callWith_builtin rfl (Calls.evalArgs_plain (Calls.spliced_cons ?_))))
  refine Call_ (ld_blt I hg2 hm2 bt_set (PyProof.Rows.callWith_type1 (thn (ha pos1 pins s σ H _ I h) fun us s1 ⟨vs, H1, I1, r1, q1⟩ => ?_) hs rfl))
  obtain ⟨a, ns, e, hL, hlen, q⟩ := q1
  subst e
  obtain ⟨u, rfl, ru⟩ := vals1 r1
  cases ru
  obtain ⟨its, r, hl, hz⟩ := I1.list hL
  have hi : IntsAre its.toArray.toList ns := intsAre_of r
  have hl2 : its.length = ns.length := by have := r.length; rw [List.length_map] at this; exact this.symm
  have hl3 : its.toArray.size = ns.length := by rw [List.size_toArray, hl2]
  refine call_set_list (I1.ok.hd hc) hl.isList hi (by rw [hl3]; unfold scanBound; omega) fun h' tk hS hk => ?_
  rw [hl3] at hS
  refine Calls.spliced_nil ?_
  obtain ⟨o, es, ep, t, ho, hex, hd, _, _, hsc, hf, hn⟩ := hS
  have hm1 := met_one ns
  rw [← hn] at hm1
  refine call_len_set ho hex hd hf (by unfold scanBound at hsc; omega) ?_
  refine ⟨.int (es.size : Int), H1, I1.kept (t' := tk + 1 + 1) (fun b o e => hk b o (Heap.lt_size e) e), ⟨_, rfl⟩, q _ hm1⟩
theorem qLenSet {e : Expr} {ta : TA} {p1 p2 pos1 pos : Pos} (K : PySem.W.Frag) (hg : Gl X "len") (hm : X.mg "len" = none) (hg2 : Gl X "set") (hm2 : X.mg "set" = none) (ha : QA X [e] ta) (h : notStar e = true := by rfl) (hc : X.calm = true := by rfl) (hK : X.K = K := by rfl) :
    QE X (.Call (.Name "len" p1) [.Call (.Name "set" p2) [e] [] pos1] [] pos) (tLenSet K ta) := by
  subst hK
  exact .mk (pe_lenSet hc hg hm hg2 hm2 ha.un (by rw [star_cons h, star_nil]))
end
end L3

/-! is, is not of two bools -/
namespace L3
open PySem PySem.Spec PyProof.Rows L2
section
variable {X : Cx}
theorem op_isB : OpR X (compareOp .Is) (fun x y H Q => ∃ a b, x = .bl a ∧ y = .bl b ∧ Q (.bl (decide (a = b))) H) := by
  intro pins s σ H x y v u Q I rx ry h
  obtain ⟨a, b, rfl, rfl, q⟩ := h
  cases rx
  cases ry
  refine wpAny_is_plain rfl (fin_bl I q ?_)
  cases a <;> cases b <;> rfl
theorem op_notB : OpR X (compareOp .IsNot) (fun x y H Q => ∃ a b, x = .bl a ∧ y = .bl b ∧ Q (.bl (!decide (a = b))) H) := by
  intro pins s σ H x y v u Q I rx ry h
  obtain ⟨a, b, rfl, rfl, q⟩ := h
  cases rx
  cases ry
  refine wpAny_isNot_plain rfl (fin_bl I q ?_)
  cases a <;> cases b <;> rfl
theorem rIsB : ROp X (compareOp .Is) (fun x y H Q => ∃ a b, x = .bl a ∧ y = .bl b ∧ Q (.bl (decide (a = b))) H) := .mk op_isB
theorem rIsNotB : ROp X (compareOp .IsNot) (fun x y H Q => ∃ a b, x = .bl a ∧ y = .bl b ∧ Q (.bl (!decide (a = b))) H) := .mk op_notB
end
end L3

/-! len(set(xs)) of a list of numbers: as many as the list just where none is twice -/
namespace L3
open PySem PySem.Spec PyProof.Rows L2
theorem sub_len : ∀ {xs P : List Int}, xs.Nodup → (∀ x ∈ xs, x ∈ P) → xs.length ≤ P.length
  | [], _, _, _ => Nat.zero_le _
  | x :: xs, P, hn, hs => by
    have hx := hs x (List.mem_cons_self ..)
    have hn' := List.nodup_cons.mp hn
    have h1 := sub_len (xs := xs) (P := P.erase x) hn'.2 fun y hy => (List.mem_erase_of_ne (fun e => hn'.1 (by rw [← e]; exact hy))).mpr (hs y (List.mem_cons_of_mem _ hy))
    rw [List.length_erase_of_mem hx] at h1
    have := List.length_pos_of_mem hx
    rw [List.length_cons]; omega
theorem sub_full : ∀ {ns l : List Int}, l.Nodup → (∀ x ∈ l, x ∈ ns) → l.length = ns.length → ns.Nodup
  | [], _, _, _, _ => List.nodup_nil
  | x :: ns, l, hn, hs, hl => by
    rw [List.length_cons] at hl
    have hx : x ∉ ns := fun z => by
      have := sub_len (P := ns) hn fun y hy => by
        rcases List.mem_cons.mp (hs y hy) with e | e
        · rw [e]; exact z
        · exact e
      omega
    have hxl : x ∈ l := Classical.byContradiction fun z => by
      have := sub_len (P := ns) hn fun y hy => by
        rcases List.mem_cons.mp (hs y hy) with e | e
        · exact absurd (by rw [← e]; exact hy) z
        · exact e
      omega
    refine List.nodup_cons.mpr ⟨hx, sub_full (l := l.erase x) (hn.erase x) (fun y hy => ?_) ?_⟩
    · have h1 := (List.Nodup.mem_erase_iff hn).mp hy
      exact (List.mem_cons.mp (hs y h1.2)).resolve_left h1.1
    · rw [List.length_erase_of_mem hxl]; omega
theorem met_all (ns : List Int) : (firstMet (fun i => ns.getD i 0) ns.length).length ≤ ns.length ∧ ((firstMet (fun i => ns.getD i 0) ns.length).length = ns.length ↔ ns.Nodup) := by
  have hm : ∀ k, k ∈ firstMet (fun i => ns.getD i 0) ns.length ↔ k ∈ ns := fun k => by
    have := firstMet_any (fun i => ns.getD i 0) ns.length k
    rw [range_getD] at this
    have key : ∀ l : List Int, l.any (· == k) = true ↔ k ∈ l := fun l => by
      rw [List.any_eq_true]
      constructor
      · rintro ⟨x, hx, e⟩
        rw [← eq_of_beq e]; exact hx
      · intro h; exact ⟨k, h, by simp⟩
    rw [← key, ← key, this]
  have hn := met_nodup (fun i => ns.getD i 0) ns.length
  generalize firstMet (fun i => ns.getD i 0) ns.length = l at hm hn
  have h1 := sub_len (P := ns) hn fun y hy => (hm y).mp hy
  refine ⟨h1, fun h => sub_full hn (fun y hy => (hm y).mp hy) h, fun h => ?_⟩
  have := sub_len (P := l) h fun y hy => (hm y).mpr hy
  omega
section
variable {X : Cx}
def tLenSetX (K : PySem.W.Frag) (ta : TA) : TE := fun σ H Q => ta σ H fun vs H1 => ∃ (a : Addr) (ns : List Int), vs = [.ref a] ∧ SqL K H1 a (ns.map V.int) ∧ ns.length ≤ 1000 ∧ ∀ m : Nat, m ≤ ns.length → (m = ns.length ↔ ns.Nodup) → Q (.int (m : Int)) H1
theorem pe_lenSetX {e : Expr} {ta : TA} {p1 p2 pos1 pos : Pos} (hc : X.calm = true) (hg : Gl X "len") (hm : X.mg "len" = none) (hg2 : Gl X "set") (hm2 : X.mg "set" = none) (ha : PA X [e] ta) (hs : starEach [e] X.env = [(false, eval e X.env)]) :
    PE X (.Call (.Name "len" p1) [.Call (.Name "set" p2) [e] [] pos1] [] pos) (tLenSetX X.K ta) := by
  intro pins s σ H Q I h
  refine Call_ (ld_blt I hg hm bt_len (Calls.callWith_builtin rfl (Calls.evalArgs_plain (Calls.spliced_cons ?_))))
  refine Call_ (ld_blt I hg2 hm2 bt_set (PyProof.Rows.callWith_type1 (thn (ha pos1 pins s σ H _ I h) fun us s1 ⟨vs, H1, I1, r1, q1⟩ => ?_) hs rfl))
  obtain ⟨a, ns, e, hL, hlen, q⟩ := q1
  subst e
  obtain ⟨u, rfl, ru⟩ := vals1 r1
  cases ru
  obtain ⟨its, r, hl, hz⟩ := I1.list hL
  have hi : IntsAre its.toArray.toList ns := intsAre_of r
  have hl2 : its.length = ns.length := by have := r.length; rw [List.length_map] at this; exact this.symm
  have hl3 : its.toArray.size = ns.length := by rw [List.size_toArray, hl2]
  refine call_set_list (I1.ok.hd hc) hl.isList hi (by rw [hl3]; unfold scanBound; omega) fun h' tk hS hk => ?_
  rw [hl3] at hS
  refine Calls.spliced_nil ?_
  obtain ⟨o, es, ep, t, ho, hex, hd, _, _, hsc, hf, hn⟩ := hS
  have hm1 := met_all ns
  rw [← hn] at hm1
  refine call_len_set ho hex hd hf (by unfold scanBound at hsc; omega) ?_
  refine ⟨.int (es.size : Int), H1, I1.kept (t' := tk + 1 + 1) (fun b o e => hk b o (Heap.lt_size e) e), ⟨_, rfl⟩, q _ hm1.1 hm1.2⟩
theorem qLenSetX {e : Expr} {ta : TA} {p1 p2 pos1 pos : Pos} (K : PySem.W.Frag) (hg : Gl X "len") (hm : X.mg "len" = none) (hg2 : Gl X "set") (hm2 : X.mg "set" = none) (ha : QA X [e] ta) (h : notStar e = true := by rfl) (hc : X.calm = true := by rfl) (hK : X.K = K := by rfl) :
    QE X (.Call (.Name "len" p1) [.Call (.Name "set" p2) [e] [] pos1] [] pos) (tLenSetX K ta) := by
  subst hK
  exact .mk (pe_lenSetX hc hg hm hg2 hm2 ha.un (by rw [star_cons h, star_nil]))
/-! x is True, x is False of a thing that is no bool -/
theorem op_isO : OpR X (compareOp .Is) (fun x y H Q => ∃ b, y = .bl b ∧ (x = .non ∨ ∃ a, x = .ref a) ∧ Q (.bl false) H) := by
  intro pins s σ H x y v u Q I rx ry h
  obtain ⟨b, rfl, hx, q⟩ := h
  cases ry
  rcases hx with rfl | ⟨a, rfl⟩
  · cases rx
    refine wpAny_is_other rfl (fun z => nomatch z) (fin_bl I q rfl)
  · cases rx
    refine wpAny_is_other rfl (fun z => nomatch z) (fin_bl I q rfl)
theorem rIsO : ROp X (compareOp .Is) (fun x y H Q => ∃ b, y = .bl b ∧ (x = .non ∨ ∃ a, x = .ref a) ∧ Q (.bl false) H) := .mk op_isO
end
end L3

/-! texts -/
namespace L3
open PySem PySem.Spec PyProof.Rows L2
section
variable {X : Cx}
/-! ### str(n), int(x), len(x), x in y -/
def rIntT : List V → Hp → VK → Prop := fun xs H Q => ∃ (x : Str) (n : Int), xs = [.str x] ∧ PySem.intText? x = some n ∧ x.length ≤ 640 ∧ Q (.int n) H
theorem call_intT : CallR X (.type "int") rIntT := by
  intro pins s σ H xs us Q I rv h
  obtain ⟨x, n, rfl, hn, hl, q⟩ := h
  obtain ⟨u, rfl, ru⟩ := vals1 rv
  obtain ⟨t, rfl⟩ := ru
  exact PySem.W.KIN.call_text hn hl ⟨.int n, H, I.tok _, ⟨_, rfl⟩, q⟩
theorem fIntT : RCall X (.type "int") rIntT := .mk call_intT
def rLenS : List V → Hp → VK → Prop := fun xs H Q => ∃ x : Str, xs = [.str x] ∧ x.length ≤ sizeLine ∧ Q (.int x.length) H
theorem call_lenS : CallR X (.builtin "len") rLenS := by
  intro pins s σ H xs us Q I rv h
  obtain ⟨x, rfl, hl, q⟩ := h
  obtain ⟨u, rfl, ru⟩ := vals1 rv
  obtain ⟨t, rfl⟩ := ru
  have e : sizeLine = 16777216 := sizeLine_eq
  exact len_str (by omega) ⟨.int x.length, H, I.kept (t' := _) (fun b o e => e), ⟨_, rfl⟩, q⟩
theorem fLenS : RCall X (.builtin "len") rLenS := .mk call_lenS
theorem rInS : ROp X (compareOp .In) (fun x y H Q => ∃ i j, x = .str i ∧ y = .str j ∧ Q (.bl (!(Builtin.Str.occurrences j i 0 j.length 1).isEmpty)) H) := .mk op_in_str
theorem qglobS {x : Str} {i : Str} {pos : Pos} (hg : Gl X x) (hm : ∃ tk, X.mg x = some (.str i tk)) (hd : (x == ("__debug__" : Str)) = false := by decide) : QE X (.Name x pos) (tC (.str i)) := by
  obtain ⟨tk, h⟩ := hm
  exact .mk (pe_glob hg h ⟨tk, rfl⟩ hd)
/-! ### x[lo:hi] -/
def rSlS : V → Option Int → Option Int → Hp → VK → Prop := fun x lo hi H Q => ∃ y : Str, x = .str y ∧ (PySem.StrLaws.sliceText y lo hi).length ≤ sizeLine ∧ Q (.str (PySem.StrLaws.sliceText y lo hi)) H
theorem sl_str : SlR X rSlS := by
  intro pins s σ H x v vl vu lo hi sl Q I rx hs pl pu h
  obtain ⟨y, rfl, hz, q⟩ := h
  obtain ⟨t, rfl⟩ := rx
  have main : ∀ (l u : Option (Int × Tok)), vl = partValue l → vu = partValue u → lo = l.map (·.1) → hi = u.map (·.1) → wpAny (model X.prog X.w) X.A (getItem (.str y t) (.ref sl)) (EP X pins σ Q) X.xe s := by
    intro l u e1 e2 e3 e4
    subst e1 e2 e3 e4
    refine wpAny_getItem_str_slice (l := l) (u := u) (st := none) hs rfl ?_
    unfold PySem.StrLaws.sliceText at hz q
    show (if ((1 : Int) == 1 && (Builtin.Str.strSliceIndices (l.map (·.1)) (u.map (·.1)) 1 y.length).length == y.length) = true then Made.val (.str y t) else Made.str ⟨((Builtin.Str.strSliceIndices (l.map (·.1)) (u.map (·.1)) 1 y.length).filterMap (y.cps[·]?)).toArray⟩).post _ s
    by_cases c : ((1 : Int) == 1 && (Builtin.Str.strSliceIndices (l.map (·.1)) (u.map (·.1)) 1 y.length).length == y.length) = true
    · rw [if_pos c] at hz q
      rw [if_pos c]
      exact ⟨.str y, H, I, ⟨_, rfl⟩, q⟩
    · rw [if_neg c] at hz q
      rw [if_neg c]
      exact ⟨hz, ⟨.str _, H, I.tok _, ⟨_, rfl⟩, q⟩⟩
  refine ⟨"str", _, slot_str_getitem.lookup, typeIs_str s y t, ?_⟩
  cases pl with
  | none =>
    cases pu with
    | none => exact main none none rfl rfl rfl rfl
    | int j t2 => exact main none (some (j, t2)) rfl rfl rfl rfl
  | int i t1 =>
    cases pu with
    | none => exact main (some (i, t1)) none rfl rfl rfl rfl
    | int j t2 => exact main (some (i, t1)) (some (j, t2)) rfl rfl rfl rfl
theorem xSlS : RSl X rSlS := .mk sl_str
/-! ### methods -/
def rStarts : V → List V → Hp → VK → Prop := fun x vs H Q => ∃ a b : Str, x = .str a ∧ vs = [.str b] ∧ Q (.bl (Txt.startswith a b)) H
theorem mt_starts : MtR X "str.startswith" rStarts := by
  intro pins s σ H x vs v us Q I rx rv h
  obtain ⟨a, b, rfl, rfl, q⟩ := h
  obtain ⟨t, rfl⟩ := rx
  obtain ⟨u, rfl, ru⟩ := rv.one
  obtain ⟨t', rfl⟩ := ru
  exact PySem.SC.startswith ⟨.bl _, H, I, rfl, q⟩
theorem mStarts : RMt X "str.startswith" rStarts := .mk mt_starts
theorem strs_of {ts : List Str} : ∀ {us : List Value}, Vals (ts.map V.str) us → ∃ l : List (Str × Tok), us = strValues l ∧ l.map (·.1) = ts := by
  induction ts with
  | nil => intro us h; cases h; exact ⟨[], rfl, rfl⟩
  | cons x ts ih =>
    intro us h
    cases h with
    | cons r t =>
      obtain ⟨k, rfl⟩ := r
      obtain ⟨l, rfl, e⟩ := ih t
      exact ⟨(x, k) :: l, rfl, by rw [List.map_cons, e]⟩
theorem vals_strs : ∀ (tk : Nat) (ts : List Str), Vals (ts.map V.str) (strsFrom tk ts)
  | _, [] => .nil
  | tk, x :: r => .cons ⟨tk, rfl⟩ (vals_strs (tk + 1) r)
def rJoin (K : PySem.W.Frag) : V → List V → Hp → VK → Prop := fun x vs H Q => ∃ (a : Str) (l : Addr) (ts : List Str), x = .str a ∧ vs = [.ref l] ∧ SqL K H l (ts.map V.str) ∧ JoinOk a ts = true ∧ Q (.str (Str.join a ts)) H
theorem mt_join : MtR X "str.join" (rJoin X.K) := by
  intro pins s σ H x vs v us Q I rx rv h
  obtain ⟨a, l, ts, rfl, rfl, hq, hok, q⟩ := h
  obtain ⟨t, rfl⟩ := rx
  obtain ⟨u, rfl, ru⟩ := rv.one
  cases ru
  obtain ⟨its, r, hl, hz⟩ := I.list hq
  obtain ⟨ls, rfl, e⟩ := strs_of r
  refine PySem.SC.join (texts := ts) hl.isList e hok fun t' k => ?_
  exact ⟨.str _, H, I.kept (t' := k) (fun b o e => e), ⟨_, by rw [Txt.join, PySem.StrLaws.glued_eq_join]⟩, q⟩
theorem mJoin (K : PySem.W.Frag) (hK : X.K = K := by rfl) : RMt X "str.join" (rJoin K) := by subst hK; exact .mk mt_join
def rSplit : V → List V → Hp → VK → Prop := fun x vs H Q => ∃ a b : Str, x = .str a ∧ vs = [.str b] ∧ (b.length == 0) = false ∧ a.length ≤ sizeLine ∧ (Txt.split a b).length ≤ sizeLine ∧ New H (.lst ((Txt.split a b).map V.str)) Q
theorem mt_split : MtR X "str.split" rSplit := by
  intro pins s σ H x vs v us Q I rx rv h
  obtain ⟨x, y, rfl, rfl, hy, hsz, hsz2, q⟩ := h
  obtain ⟨t, rfl⟩ := rx
  obtain ⟨u, rfl, ru⟩ := rv.one
  obtain ⟨t', rfl⟩ := ru
  have lay : ∀ (tk : Nat) (us : List Value), Vals ((Txt.split x y).map V.str) us → EP X pins σ Q (.ref s.heap.objs.size) { s with toks := tk, heap := s.heap.push { cls := .type "list", data := .seq us.toArray } } := fun tk us r => by
    refine ⟨.ref s.heap.objs.size, _, I.laid (t' := tk) (o := .lst ((Txt.split x y).map V.str)) (fun b ob q => Heap.get?_push_of_some _ q) (Nat.le_refl _) ?_, rfl, q.at (I.hok.fresh (Nat.le_refl _))⟩
    exact ⟨by rw [List.length_map]; exact hsz2, us, 0, r, Heap.get?_push_size _ rfl⟩
  unfold Txt.split at lay hsz2
  by_cases h1 : (decide (x.length < y.length) || decide (Builtin.Str.strKind x < Builtin.Str.strKind y)) = true
  · rw [if_pos h1] at lay
    exact call_meets F.slot_str_split (typeIs_str _ _ _) F.entry_str_split (F.args_str_split_2 _ _) (meets_str_split_cannot_occur x y t t' h1) (lay s.toks [.str x t] (.cons ⟨t, rfl⟩ .nil))
  · rw [if_neg h1] at lay hsz2
    by_cases hf : (Builtin.Str.occurrences x y 0 x.length (x.length + 1)).isEmpty = true
    · rw [if_pos hf] at lay
      exact call_meets F.slot_str_split (typeIs_str _ _ _) F.entry_str_split (F.args_str_split_2 _ _) (meets_str_split_not_found x y t t' (Bool.eq_false_iff.mpr h1) hy hf) (lay s.toks [.str x t] (.cons ⟨t, rfl⟩ .nil))
    · rw [if_neg hf] at lay hsz2
      exact call_meets F.slot_str_split (typeIs_str _ _ _) F.entry_str_split (F.args_str_split_2 _ _) (meets_str_split_sep x y t t' (Bool.eq_false_iff.mpr h1) hy (Bool.eq_false_iff.mpr hf) hsz hsz2) (lay _ _ (vals_strs _ _))
theorem mSplit : RMt X "str.split" rSplit := .mk mt_split
end
/-! ### a text walked, sign by sign -/
def Its (x : Str) : It := ⟨fun i _ => i < x.cps.size, fun i H v H' => H' = H ∧ ∃ c, x.cps[i]? = some c ∧ v = .str ⟨#[c]⟩, fun i _ => x.cps.size ≤ i⟩
theorem turn_str {P : Program} {w : World} {K : PySem.W.Frag} {tg : Expr} (x : Str) (t : Tok) (it : Addr) : Turn P w K tg (Its x) [it] it (fun i h => h.IsStrIter it "str_ascii_iterator" x t i) where
  mem := by simp
  obj := fun i h st b hb => by
    have e : b = it := by simpa using hb
    subst e
    obtain ⟨o, e, c, d⟩ := st
    exact ⟨o, e, fun v z => by rw [d] at z; cases z⟩
  keep := fun i h h' st k => let ⟨o, ho, r⟩ := st; ⟨o, k it (by simp) o ho, r⟩
  item := by
    intro X hP hw hK hc i pins s σ H E I hf st hg
    subst hP hw hK
    have hi : x.cps[i]? = some x.cps[i] := Array.getElem?_eq_getElem hg
    obtain ⟨f0, f1, f2, f3, f4, f5⟩ := hf it (by simp)
    refine wpAny_pyNext_ascii_item st hi fun h' st' sb => ?_
    have I1 : Inv X pins σ H { s with heap := h', toks := s.toks + 1 } := I.turned (fun b o hb e => (sb.2 b hb).trans e) f0 f1 f3 f4 f5
    obtain ⟨o, e, c, d⟩ := id st'
    exact ⟨_, rfl, go_of (s := { s with heap := h', toks := s.toks + 1 }) e c d (by decide) ⟨.str ⟨#[x.cps[i]]⟩, H, I1, ⟨_, rfl⟩, ⟨rfl, _, hi, rfl⟩, st', fun b hb => (hf b hb).1⟩⟩
  done := by
    intro X hP hw hK hc i pins s σ H E I hf st hg
    subst hP hw hK
    have hi : x.cps[i]? = none := Array.getElem?_eq_none hg
    obtain ⟨f0, f1, f2, f3, f4, f5⟩ := hf it (by simp)
    exact wpAny_pyNext_ascii_end (I.ok.hd hc) st hi fun h' eb => ⟨rfl, I.turned (t' := s.toks) (fun b o hb e => eb b o hb e) f0 f1 f3 f4 f5⟩
  self := fun _ _ _ _ _ st h => wpAny_pyIter_striter_ascii st h
section
variable {X : Cx} {tg : Expr}
def iStr (tl : TE) : TI := fun σ H R => tl σ H fun v H1 => ∃ x : Str, v = .str x ∧ x.cps.all (· < 128) = true ∧ R (Its x) H1
theorem pi_str {l : Expr} {tl : TE} (hl : PE X l tl) : PI X tg l (iStr tl) := by
  intro pins s σ H R I h
  refine thn (hl pins s σ H _ I h) fun v s1 ⟨x, H1, I1, r1, q1⟩ => ?_
  obtain ⟨y, rfl, ha, q⟩ := q1
  obtain ⟨t, rfl⟩ := r1
  refine wpAny_pyIter_ascii ha ?_
  refine ⟨s1.heap.objs.size, [s1.heap.objs.size], _, _, H1, rfl, I1.kept (t' := s1.toks) fun b o e => Heap.get?_push_of_some _ e, turn_str y t _, ⟨_, Heap.get?_push_size _ rfl, rfl, rfl⟩, fun b hb => ?_, q⟩
  have e : b = s1.heap.objs.size := by simpa using hb
  subst e
  exact I1.fpOk (Nat.le_refl _) (I1.hok.fresh (Nat.le_refl _))
theorem istr {l : Expr} {tl : TE} (hl : QE X l tl) : QI X tg l (iStr tl) := .mk (pi_str hl.un)
end
theorem comp_str {g : TG} {tt : TT} {te : TE} {acc : Addr} {σ0 : L2.St} {H0 : Hp} {Q : Hp → Prop} {x : Str} (Pv : Nat → List V → L2.St → Hp → Prop) (h0 : Pv 0 [] σ0 H0)
    (hs : ∀ i ys c σ H, x.cps[i]? = some c → i < x.cps.size → Pv i ys σ H → g (.str ⟨#[c]⟩) σ H fun σ2 H2 => tt σ2 H2 fun b H3 => if b = true then te σ2 H3 (CPost Pv acc x.cps.size i σ2) else CSkip Pv x.cps.size i σ2 H3)
    (hd : ∀ ys σ H, Pv x.cps.size ys σ H → Q H) : CompW (Its x) g tt te acc σ0 H0 Q := by
  refine ⟨fun i m σ H => m = x.cps.size - i ∧ i ≤ x.cps.size ∧ ∃ ys, Pv i ys σ H, ⟨x.cps.size, by simp, Nat.zero_le _, [], h0⟩, ?_⟩
  rintro i m σ H ⟨rfl, hi, ys, p⟩
  by_cases hlt : i < x.cps.size
  · refine .inr ⟨hlt, fun v H1 y => ?_⟩
    obtain ⟨e, c, hc, rfl⟩ := y
    subst e
    have z := hs i ys c σ _ hc hlt p
    unfold CPost CSkip at z
    exact z
  · have e : i = x.cps.size := by omega
    subst e
    exact .inl ⟨Nat.le_refl _, hd ys σ H p⟩
end L3

/-! numbers written, texts joined and split -/
namespace L3
open PySem PySem.Spec PyProof.Rows L2 PySem.NumText
def num (n : Int) : Str := Str.ofString (toString n)
abbrev ls (x : Str) : List Nat := x.cps.toList
theorem ls_ext {a b : Str} (h : ls a = ls b) : a = b := by
  cases a; cases b
  simp only [Str.mk.injEq]
  exact Array.toList_inj.mp h
theorem ls_len (x : Str) : x.length = (ls x).length := by rw [Array.length_toList]; rfl
theorem ls_app (a b : Str) : ls (a ++ b) = ls a ++ ls b := by
  show (a.cps ++ b.cps).toList = _
  simp
/-- the figures of a number -/
def figs (m : Nat) : List Nat := (Nat.toDigits 10 m).map Char.toNat
theorem figs_dig (m : Nat) : AllDigits (figs m) := fun c hc => by
  obtain ⟨ch, hch, e⟩ := List.mem_map.mp hc
  rw [← e]
  exact digit_range (Nat.isDigit_of_mem_toDigits (by decide) (by decide) hch)
theorem figs_val (m : Nat) : digitsVal (figs m) = m := PySem.W.KIN.val_back m
theorem figs_len : ∀ (k m : Nat), m < 10 ^ (k + 1) → (figs m).length ≤ k + 1
  | 0, m, h => by
    have h : m < 10 := by simpa using h
    unfold figs
    rw [Nat.toDigits_of_lt_base h]
    exact Nat.le_refl 1
  | k + 1, m, h => by
    unfold figs
    by_cases c : m < 10
    · rw [Nat.toDigits_of_lt_base c]; simp
    · have hm : m % 10 < 10 := Nat.mod_lt m (by decide)
      have t : Nat.toDigits 10 (m / 10) ++ Nat.toDigits 10 (m % 10) = Nat.toDigits 10 (10 * (m / 10) + m % 10) := Nat.toDigits_append_toDigits (by decide) (by omega) hm
      rw [Nat.div_add_mod] at t
      have ih := figs_len k (m / 10) (by
        rw [Nat.div_lt_iff_lt_mul (by decide)]
        rw [Nat.pow_succ] at h
        exact h)
      unfold figs at ih
      rw [List.length_map] at ih ⊢
      rw [← t, List.length_append, Nat.toDigits_of_lt_base hm]
      show _ + 1 ≤ _
      omega
theorem figs_ne (m : Nat) : figs m ≠ [] := by
  intro e
  have := figs_val m
  unfold figs at e
  have h := List.map_eq_nil_iff.mp e
  by_cases c : m < 10
  · rw [Nat.toDigits_of_lt_base c] at h; cases h
  · have hm : m % 10 < 10 := Nat.mod_lt m (by decide)
    have t : Nat.toDigits 10 (m / 10) ++ Nat.toDigits 10 (m % 10) = Nat.toDigits 10 (10 * (m / 10) + m % 10) := Nat.toDigits_append_toDigits (by decide) (by omega) hm
    rw [Nat.div_add_mod, h, Nat.toDigits_of_lt_base hm] at t
    have := congrArg List.length t
    simp at this
theorem num_nat (m : Nat) : ls (num (m : Int)) = figs m := PySem.W.KIN.signs_num m
theorem num_neg (m : Nat) : ls (num (-((m + 1 : Nat) : Int))) = 45 :: figs (m + 1) := by
  unfold num
  show (Str.ofString _).cps.toList = _
  rw [signs_ofString]
  have e : -((m + 1 : Nat) : Int) = Int.negSucc m := rfl
  rw [e]
  show (toString (Int.negSucc m)).toList.map Char.toNat = _
  have e2 : toString (Int.negSucc m) = "-" ++ (Nat.repr (m + 1)) := rfl
  rw [e2, String.toList_append, List.map_append, Nat.toList_repr]
  rfl
/-- both cases -/
theorem num_cases (n : Int) : (∃ m : Nat, n = (m : Int) ∧ ls (num n) = figs m) ∨ ∃ m : Nat, n = -((m + 1 : Nat) : Int) ∧ ls (num n) = 45 :: figs (m + 1) := by
  by_cases h : 0 ≤ n
  · obtain ⟨m, rfl⟩ := Int.eq_ofNat_of_zero_le h
    exact .inl ⟨m, rfl, num_nat m⟩
  · obtain ⟨m, rfl⟩ : ∃ m : Nat, n = -((m + 1 : Nat) : Int) := ⟨(-n).toNat - 1, by omega⟩
    exact .inr ⟨m, rfl, num_neg m⟩
def Bd (n : Int) : Prop := n.natAbs < 10 ^ 60
theorem num_signs (n : Int) : ∀ c ∈ ls (num n), c = 45 ∨ (48 ≤ c ∧ c ≤ 57) := by
  intro c hc
  rcases num_cases n with ⟨m, _, e⟩ | ⟨m, _, e⟩
  · rw [e] at hc; exact .inr (figs_dig m c hc)
  · rw [e] at hc
    rcases List.mem_cons.mp hc with h | h
    · exact .inl h
    · exact .inr (figs_dig _ c h)
theorem num_len {n : Int} (h : Bd n) : 1 ≤ (num n).length ∧ (num n).length ≤ 61 := by
  unfold Bd at h
  rw [ls_len]
  rcases num_cases n with ⟨m, rfl, e⟩ | ⟨m, rfl, e⟩
  · have h1 := figs_len 59 m (by simpa using h)
    have h2 := List.length_pos_iff.mpr (figs_ne m)
    rw [e]; omega
  · have h1 := figs_len 59 (m + 1) (by rw [Int.natAbs_neg] at h; exact h)
    rw [e, List.length_cons]; omega
theorem num_log {n : Int} (h : Bd n) : n.natAbs.log2 < 1920 := by
  unfold Bd at h
  by_cases c : n.natAbs = 0
  · rw [c]; decide
  · rw [Nat.log2_lt c]
    exact Nat.lt_of_lt_of_le h (by decide +kernel)
theorem num_reads {n : Int} (h : Bd n) : PySem.intText? (num n) = some n := by
  have hl := (num_len h).2
  rcases num_cases n with ⟨m, rfl, e⟩ | ⟨m, rfl, e⟩
  · have := intText_digits (x := num (m : Int)) (by show AllDigits (ls _); rw [e]; exact figs_dig m) (by show ls _ ≠ []; rw [e]; exact figs_ne m) (by omega)
    rw [this]
    show some ((digitsVal (ls (num (m : Int))) : Nat) : Int) = _
    rw [e, figs_val]
  · have := intText_neg (x := num (-((m + 1 : Nat) : Int))) (cs := figs (m + 1)) e (figs_dig _) (figs_ne _) (by omega)
    rw [this, figs_val]
/-! ### its figures alone -/
def minus : Str := ⟨#[45]⟩
theorem minus_is : ("-" : Str) = minus := by decide
theorem starts_minus (x : Str) : Txt.startswith x minus = decide ((ls x)[0]? = some 45) := by
  have h := PySem.StrLaws.subAt_one x 45 0
  unfold Txt.startswith
  by_cases c : (ls x)[0]? = some 45
  · obtain ⟨h1, h2⟩ := h.mpr c
    rw [decide_eq_true c]
    show (decide (0 + (⟨#[45]⟩ : Str).length ≤ x.length) && Builtin.Str.subAt x ⟨#[45]⟩ 0) = true
    rw [decide_eq_true h1]
    exact h2
  · rw [decide_eq_false c]
    have := fun z => c (h.mp z)
    rw [Bool.and_eq_false_iff]
    by_cases d : 0 + minus.length ≤ x.length
    · right
      cases e : Builtin.Str.subAt x minus 0 with
      | false => rfl
      | true => exact absurd ⟨d, e⟩ this
    · left; exact decide_eq_false d
/-- what is left without a sign -/
def bare (n : Int) : Str := if n < 0 then ⟨((ls (num n)).drop 1).toArray⟩ else num n
theorem bare_ls (n : Int) : ls (bare n) = figs n.natAbs := by
  unfold bare
  rcases num_cases n with ⟨m, rfl, e⟩ | ⟨m, rfl, e⟩
  · rw [if_neg (by omega), e]; rfl
  · rw [if_pos (by omega), e, Int.natAbs_neg]; rfl
theorem num_starts (n : Int) : Txt.startswith (num n) minus = decide (n < 0) := by
  rw [starts_minus]
  rcases num_cases n with ⟨m, rfl, e⟩ | ⟨m, rfl, e⟩
  · rw [e, decide_eq_false (show ¬ ((m : Nat) : Int) < 0 by omega)]
    refine decide_eq_false fun z => ?_
    have := figs_dig m 45 (List.mem_of_getElem? z)
    omega
  · rw [e, decide_eq_true (show -((m + 1 : Nat) : Int) < 0 by omega)]
    rfl
theorem num_cut {n : Int} (h : n < 0) : PySem.StrLaws.sliceText (num n) (some 1) none = bare n := by
  have hl : (1 : Int) ≤ ((ls (num n)).length : Int) := by
    rcases num_cases n with ⟨m, rfl, e⟩ | ⟨m, rfl, e⟩
    · omega
    · rw [e, List.length_cons]; omega
  rw [PySem.StrLaws.sliceText_from ⟨by decide, hl⟩]
  unfold bare
  rw [if_pos h]
  refine ls_ext ?_
  show (((ls (num n)).drop 1).take _).toArray.toList = ((ls (num n)).drop 1).toArray.toList
  rw [List.take_of_length_le]
  simp
theorem bare_len {n : Int} (h : Bd n) : 1 ≤ (bare n).length ∧ (bare n).length ≤ 60 := by
  rw [ls_len, bare_ls]
  exact ⟨List.length_pos_iff.mpr (figs_ne _), figs_len 59 _ h⟩
def figures : Str := "0123456789"
theorem in_figures {c : Nat} (h : 48 ≤ c ∧ c ≤ 57) : (!(Builtin.Str.occurrences figures ⟨#[c]⟩ 0 figures.length 1).isEmpty) = true := by
  rw [PySem.StrLaws.found_one]
  refine decide_eq_true ?_
  have e : figures.cps.toList = [48, 49, 50, 51, 52, 53, 54, 55, 56, 57] := by decide
  rw [e]
  simp only [List.mem_cons, List.not_mem_nil, or_false]
  omega
theorem ascii_of {x : Str} (h : ∀ c ∈ ls x, c < 128) : x.cps.all (· < 128) = true := by
  rw [← Array.all_toList, List.all_eq_true]
  exact fun c hc => decide_eq_true (h c hc)
/-! ### joined, split -/
theorem join_one (s x : Str) : Str.join s [x] = x := rfl
theorem join_two (s x y : Str) (r : List Str) : Str.join s (x :: y :: r) = x ++ s ++ Str.join s (y :: r) := rfl
theorem app_c {c : Nat} : ∀ {a b r r' : List Nat}, c ∉ a → c ∉ b → a ++ c :: r = b ++ c :: r' → a = b ∧ r = r'
  | [], [], _, _, _, _, h => ⟨rfl, by simpa using h⟩
  | [], y :: b, _, _, _, hb, h => by
    rw [List.nil_append, List.cons_append] at h
    injection h with h1 h2
    exact absurd (List.mem_cons.mpr (.inl h1)) hb
  | x :: a, [], _, _, ha, _, h => by
    rw [List.nil_append, List.cons_append] at h
    injection h with h1 h2
    exact absurd (List.mem_cons.mpr (.inl h1.symm)) ha
  | x :: a, y :: b, r, r', ha, hb, h => by
    rw [List.cons_append, List.cons_append] at h
    injection h with h1 h2
    obtain ⟨e1, e2⟩ := app_c (fun z => ha (List.mem_cons_of_mem _ z)) (fun z => hb (List.mem_cons_of_mem _ z)) h2
    exact ⟨by rw [h1, e1], e2⟩
theorem ls_two (c : Nat) (x y : Str) (r : List Str) : ls (Str.join ⟨#[c]⟩ (x :: y :: r)) = ls x ++ c :: ls (Str.join ⟨#[c]⟩ (y :: r)) := by
  rw [join_two, ls_app, ls_app, List.append_assoc]; rfl
theorem join_inj {c : Nat} : ∀ {A B : List Str}, A ≠ [] → B ≠ [] → (∀ p ∈ A, c ∉ ls p) → (∀ p ∈ B, c ∉ ls p) → ls (Str.join ⟨#[c]⟩ A) = ls (Str.join ⟨#[c]⟩ B) → A = B
  | [], _, h, _, _, _, _ => absurd rfl h
  | _, [], _, h, _, _, _ => absurd rfl h
  | [a], [b], _, _, _, _, e => by rw [join_one, join_one] at e; rw [ls_ext e]
  | [a], b :: b' :: r, _, _, ha, _, e => by
    rw [join_one, ls_two] at e
    exact absurd (by rw [e]; simp) (ha a (by simp))
  | a :: a' :: r, [b], _, _, _, hb, e => by
    rw [join_one, ls_two] at e
    exact absurd (by rw [← e]; simp) (hb b (by simp))
  | a :: a' :: r, b :: b' :: r', _, _, ha, hb, e => by
    rw [ls_two, ls_two] at e
    obtain ⟨e1, e2⟩ := app_c (ha a (by simp)) (hb b (by simp)) e
    have := join_inj (A := a' :: r) (B := b' :: r') (by simp) (by simp) (fun p hp => ha p (List.mem_cons_of_mem _ hp)) (fun p hp => hb p (List.mem_cons_of_mem _ hp)) e2
    rw [ls_ext e1, this]
theorem split_ne (x y : Str) : Txt.split x y ≠ [] := by
  unfold Txt.split
  split
  · simp
  · split
    · simp
    · intro h
      have := PySem.length_partsBetween x (Builtin.Str.occurrences x y 0 x.length (x.length + 1)) y.length
      rw [h] at this
      cases this
theorem split_join {c : Nat} {A : List Str} (hne : A ≠ []) (hf : ∀ p ∈ A, c ∉ ls p) : Txt.split (Str.join ⟨#[c]⟩ A) ⟨#[c]⟩ = A :=
  join_inj (split_ne _ _) hne (PySem.StrLaws.split_free _ c) hf (congrArg ls (PySem.StrLaws.join_split _ _))
theorem join_snoc (s : Str) : ∀ (A : List Str) (y : Str), A ≠ [] → Str.join s (A ++ [y]) = Str.join s A ++ s ++ y
  | [], _, h => absurd rfl h
  | [a], y, _ => rfl
  | a :: a' :: r, y, _ => by
    have := join_snoc s (a' :: r) y (by simp)
    show a ++ s ++ Str.join s ((a' :: r) ++ [y]) = a ++ s ++ Str.join s (a' :: r) ++ s ++ y
    rw [this, PySem.Str.append_assoc, PySem.Str.append_assoc, PySem.Str.append_assoc, PySem.Str.append_assoc, PySem.Str.append_assoc]
theorem join_ok {s : Str} {ts : List Str} {B : Nat} (hB : ∀ y ∈ ts, y.length ≤ B) (h : ts.length * B + ts.length * s.length ≤ 16777216) : JoinOk s ts = true := by
  unfold JoinOk
  rw [PySem.StrLaws.joinFits hB h]; rfl
theorem join_mem (c : Nat) : ∀ (A : List Str) (d : Nat), d ∈ ls (Str.join ⟨#[c]⟩ A) → d = c ∨ ∃ p ∈ A, d ∈ ls p
  | [], d, h => by cases h
  | [a], d, h => .inr ⟨a, by simp, h⟩
  | a :: a' :: r, d, h => by
    rw [ls_two] at h
    rcases List.mem_append.mp h with h | h
    · exact .inr ⟨a, by simp, h⟩
    · rcases List.mem_cons.mp h with h | h
      · exact .inl h
      · rcases join_mem c (a' :: r) d h with h | ⟨p, hp, hd⟩
        · exact .inl h
        · exact .inr ⟨p, List.mem_cons_of_mem _ hp, hd⟩
theorem join_le (s : Str) (A : List Str) {B : Nat} (hB : ∀ y ∈ A, y.length ≤ B) : (Str.join s A).length ≤ A.length * B + A.length * s.length :=
  Nat.le_trans (PySem.StrLaws.join_length_le s A) (Nat.add_le_add_right (PySem.StrLaws.sumLen_le A hB) _)
end L3

/-! a statement that is not come to; x in a list, x and the items of any data -/
namespace L3
open PySem PySem.Spec PyProof.Rows L2
theorem snever {X : Cx} {st : Stmt} : QS X st (fun _ _ _ => False) := .mk (fun _ _ _ _ _ _ h => h.elim)
def backV : Value → V
  | .none => .non
  | .bool b => .bl b
  | .int i _ => .int i
  | .str x _ => .str x
  | .bytes b _ => .byt b
  | .float b _ => .flt b
  | .ref a => .ref a
  | .type n => .ty n
  | _ => .non
theorem backV_is {v : V} {u : Value} (h : L2.RelV v u) : backV u = v := by
  cases v with
  | non => cases h; rfl
  | bl b => cases h; rfl
  | int i => obtain ⟨t, rfl⟩ := h; rfl
  | str x => obtain ⟨t, rfl⟩ := h; rfl
  | byt b => obtain ⟨t, rfl⟩ := h; rfl
  | flt b => obtain ⟨t, rfl⟩ := h; rfl
  | ref a => cases h; rfl
  | ty n => cases h; rfl
theorem relV_one {v v' : V} {u : Value} (h : L2.RelV v u) (h' : L2.RelV v' u) : v = v' := (backV_is h).symm.trans (backV_is h')
open Classical in
/-- what a value at H is, held against d -/
noncomputable def eOf (H : Hp) (d : D) (y : Value) : Bool := if h : ∃ e, ∃ v, L2.RelV v y ∧ Rep H v e then (Classical.choose h).eqv d else false
theorem eOf_is {H : Hp} {d e : D} {y : Value} {v : V} (r : L2.RelV v y) (g : Rep H v e) : eOf H d y = e.eqv d := by
  unfold eOf
  have h : ∃ e, ∃ v, L2.RelV v y ∧ Rep H v e := ⟨e, v, r, g⟩
  rw [dif_pos h]
  obtain ⟨v', r', g'⟩ := Classical.choose_spec h
  have := relV_one r r'
  subst this
  rw [g'.inj g]
theorem any_eOf {H : Hp} {d : D} : ∀ {xs : List V} {us : List Value} {ds : List D}, Vals xs us → Reps H xs ds → us.any (eOf H d) = ds.any fun e => e.eqv d
  | _, _, _, .nil, .nil => rfl
  | _, _, _, .cons r t, .cons g gs => by rw [List.any_cons, List.any_cons, eOf_is r g, any_eOf t gs]
theorem mem_eOf {H : Hp} {s : Shared} {P : Program} {w : World} (hok : HOk P w H s.heap) {A : Around} {n : Nat} {d : D} {x : V} {z : Value} (rz : L2.RelV x z) (gx : Rep H x d) (pd : d.pure = true) (hu : A.units + n < cLine) :
    ∀ {xs : List V} {us : List Value} {ds : List D}, Vals xs us → Reps H xs ds → pures ds = true → deps ds ≤ n → ∀ u ∈ us, SeqAt.EqAt A s u z (eOf H d u)
  | _, _, _, .nil, .nil, _, _ => fun u hu => by cases hu
  | _, _, _, .cons r t, .cons g gs, p, dp => fun u' hu' => by
    rw [pures, Bool.and_eq_true] at p
    rw [deps] at dp
    rcases List.mem_cons.mp hu' with rfl | hu'
    · rw [eOf_is r g]; exact eqAt_n hok n A (by omega) g gx r rz p.1 pd hu
    · exact mem_eOf hok rz gx pd hu t gs p.2 (by omega) u' hu'
section
variable {X : Cx}
def rInD (K : PySem.W.Frag) (neg : Bool) (n : Nat) : R2 := fun x y H Q => ∃ p xs d ds, y = .ref p ∧ SqL K H p xs ∧ Rep H x d ∧ Reps H xs ds ∧ d.pure = true ∧ pures ds = true ∧ deps ds ≤ n ∧ Q (.bl (if neg then !(ds.any fun e => e.eqv d) else (ds.any fun e => e.eqv d))) H
theorem op_inD {n : Nat} (hu : X.A.units + 1 + n < cLine) : OpR X (compareOp .In) (rInD X.K false n) := by
  intro pins s σ H x y v u Q I rx ry h
  obtain ⟨p, xs, d, ds, rfl, hq, gx, gs, pd, ps, dp, q⟩ := h
  cases ry
  obtain ⟨its, r, pl, hz⟩ := I.list hq
  refine SeqAt.in_listAt (eOf H d) pl.isList (fun w hw => mem_eOf I.hok (A := X.A.in1) rx gx pd hu r gs ps dp w (by simpa using hw)) ⟨.bl _, H, I, rfl, ?_⟩
  rw [show its.toArray.any (eOf H d) = its.any (eOf H d) by simp, any_eOf r gs]
  exact q
theorem op_notInD {n : Nat} (hu : X.A.units + 1 + n < cLine) : OpR X (compareOp .NotIn) (rInD X.K true n) := by
  intro pins s σ H x y v u Q I rx ry h
  obtain ⟨p, xs, d, ds, rfl, hq, gx, gs, pd, ps, dp, q⟩ := h
  cases ry
  obtain ⟨its, r, pl, hz⟩ := I.list hq
  refine SeqAt.notIn_listAt (eOf H d) pl.isList (fun w hw => mem_eOf I.hok (A := X.A.in1) rx gx pd hu r gs ps dp w (by simpa using hw)) ⟨.bl _, H, I, rfl, ?_⟩
  rw [show its.toArray.any (eOf H d) = its.any (eOf H d) by simp, any_eOf r gs]
  exact q
theorem rInnD {k : Nat} {A : Around} (K : PySem.W.Frag) (hr : Room k A) (hA : X.A = A := by rfl) (hK : X.K = K := by rfl) : ROp X (compareOp .In) (rInD K false 100) := by subst hK; exact .mk (op_inD (by rw [hA]; have := hu_n hr; omega))
theorem rNotInnD {k : Nat} {A : Around} (K : PySem.W.Frag) (hr : Room k A) (hA : X.A = A := by rfl) (hK : X.K = K := by rfl) : ROp X (compareOp .NotIn) (rInD K true 100) := by subst hK; exact .mk (op_notInD (by rw [hA]; have := hu_n hr; omega))
end
end L3

namespace L3
/-! ### search trees -/
inductive Tr where
  | nil
  | node (l : Tr) (k : Int) (r : Tr)
namespace Tr
def d : Tr → D
  | nil => .non
  | node l k r => .tup [l.d, .int k, r.d]
def ht : Tr → Nat
  | nil => 0
  | node l _ r => max l.ht r.ht + 1
def size : Tr → Nat
  | nil => 0
  | node l _ r => l.size + 1 + r.size
def keys : Tr → List Int
  | nil => []
  | node l k r => l.keys ++ [k] ++ r.keys
def ins (x : Int) : Tr → Tr
  | nil => node nil x nil
  | node l k r => if x < k then node (l.ins x) k r else node l k (r.ins x)
def build (xs : List Int) : Tr := xs.foldl (fun t x => t.ins x) nil
/-- all keys lie between, and so on downwards -/
def ord : Tr → Option Int → Option Int → Prop
  | nil, _, _ => True
  | node l k r, lo, hi => (∀ a, lo = some a → a < k) ∧ (∀ b, hi = some b → k < b) ∧ l.ord lo (some k) ∧ r.ord (some k) hi
theorem ht_size : ∀ t : Tr, t.ht ≤ t.size
  | nil => Nat.le_refl _
  | node l k r => by have := ht_size l; have := ht_size r; simp only [ht, size]; omega
theorem keys_length : ∀ t : Tr, t.keys.length = t.size
  | nil => rfl
  | node l k r => by simp only [keys, size, List.length_append, List.length_singleton, keys_length l, keys_length r]
theorem dep_d : ∀ t : Tr, t.d.dep ≤ t.ht
  | nil => Nat.le_refl _
  | node l k r => by
    have := dep_d l
    have := dep_d r
    simp only [d, D.dep, deps, ht]
    omega
theorem ins_size (x : Int) : ∀ t : Tr, (t.ins x).size = t.size + 1
  | nil => rfl
  | node l k r => by
    unfold ins
    split
    · simp only [size, ins_size x l]; omega
    · simp only [size, ins_size x r]; omega
theorem mem_ins (x y : Int) : ∀ t : Tr, y ∈ (t.ins x).keys ↔ y = x ∨ y ∈ t.keys
  | nil => by simp [ins, keys]
  | node l k r => by
    unfold ins
    split
    · simp only [keys, List.mem_append, List.mem_singleton, mem_ins x y l]; grind
    · simp only [keys, List.mem_append, List.mem_singleton, mem_ins x y r]; grind
theorem ins_ord (x : Int) : ∀ (t : Tr) (lo hi : Option Int), t.ord lo hi → x ∉ t.keys → (∀ a, lo = some a → a < x) → (∀ b, hi = some b → x < b) → (t.ins x).ord lo hi
  | nil, lo, hi, _, _, h1, h2 => ⟨h1, h2, trivial, trivial⟩
  | node l k r, lo, hi, h, hx, h1, h2 => by
    obtain ⟨a1, a2, a3, a4⟩ := h
    simp only [keys, List.mem_append, List.mem_singleton, not_or] at hx
    unfold ins
    split
    · exact ⟨a1, a2, ins_ord x l lo (some k) a3 hx.1.1 h1 (fun b e => by cases e; assumption), a4⟩
    · refine ⟨a1, a2, a3, ins_ord x r (some k) hi a4 hx.2 (fun a e => ?_) h2⟩
      cases e
      have := hx.1.2
      omega
theorem foldl_ins : ∀ (xs : List Int) (t : Tr), (∀ lo hi, lo = none → hi = none → t.ord lo hi) → xs.Nodup → (∀ x ∈ xs, x ∉ t.keys) →
    (xs.foldl (fun t x => t.ins x) t).ord none none ∧ (xs.foldl (fun t x => t.ins x) t).size = t.size + xs.length ∧ ∀ y, y ∈ (xs.foldl (fun t x => t.ins x) t).keys ↔ y ∈ xs ∨ y ∈ t.keys
  | [], t, h, _, _ => ⟨h none none rfl rfl, by simp, by simp⟩
  | x :: r, t, h, hn, hx => by
    rw [List.foldl_cons]
    obtain ⟨h1, h2⟩ := List.nodup_cons.mp hn
    obtain ⟨b1, b2, b3⟩ := foldl_ins r (t.ins x) (fun lo hi e1 e2 => by subst e1 e2; exact ins_ord x t none none (h none none rfl rfl) (hx x List.mem_cons_self) (by simp) (by simp)) h2 (fun y hy => by
      rw [mem_ins]
      rintro (e | e)
      · subst e; exact h1 hy
      · exact hx y (List.mem_cons_of_mem _ hy) e)
    refine ⟨b1, by rw [b2, ins_size, List.length_cons]; omega, fun y => ?_⟩
    rw [b3, mem_ins, List.mem_cons]
    grind
theorem build_ok {xs : List Int} (h : xs.Nodup) : (build xs).ord none none ∧ (build xs).size = xs.length ∧ ∀ y, y ∈ (build xs).keys ↔ y ∈ xs := by
  obtain ⟨h1, h2, h3⟩ := foldl_ins xs nil (fun _ _ _ _ => trivial) h (by simp [keys])
  exact ⟨h1, by simpa [size, build] using h2, fun y => by simpa [keys, build] using h3 y⟩
end Tr

/-! ### what of any data is a tree -/
def knot : D → Option (D × Int × D)
  | .tup [l, .int k, r] => some (l, k, r)
  | _ => none
theorem knot_eq {e l r : D} {k : Int} (h : knot e = some (l, k, r)) : e = .tup [l, .int k, r] := by
  unfold knot at h
  split at h
  · cases h; rfl
  · cases h
def okLo (lo : Option Int) (k : Int) : Bool := match lo with | none => true | some a => decide (a < k)
def okHi (hi : Option Int) (k : Int) : Bool := match hi with | none => true | some b => decide (k < b)
def btwN : Nat → D → Option Int → Option Int → Bool
  | _, .non, _, _ => true
  | 0, _, _, _ => false
  | n + 1, e, lo, hi => match knot e with
    | none => false
    | some (l, k, r) => okLo lo k && okHi hi k && btwN n l lo (some k) && btwN n r (some k) hi
def btw (e : D) (lo hi : Option Int) : Bool := btwN e.dep e lo hi
theorem knot_dep {e l r : D} {k : Int} (h : knot e = some (l, k, r)) : l.dep < e.dep ∧ r.dep < e.dep := by
  rw [knot_eq h]
  simp only [D.dep, deps]
  omega
theorem btwN_more : ∀ (n m : Nat) (e : D) (lo hi : Option Int), e.dep ≤ n → e.dep ≤ m → btwN n e lo hi = btwN m e lo hi := by
  intro n
  induction n with
  | zero =>
    intro m e lo hi h1 h2
    cases m with
    | zero => rfl
    | succ m =>
      cases e with
      | non => rfl
      | tup xs => simp [D.dep] at h1
      | lst xs => simp [D.dep] at h1
      | _ => rfl
  | succ n ih =>
    intro m e lo hi h1 h2
    cases m with
    | zero =>
      cases e with
      | non => rfl
      | tup xs => simp [D.dep] at h2
      | lst xs => simp [D.dep] at h2
      | _ => rfl
    | succ m =>
      by_cases hn : e = .non
      · subst hn; rfl
      · rw [btwN, btwN]
        · cases hk : knot e with
          | none => rfl
          | some q =>
            obtain ⟨l, k, r⟩ := q
            have := knot_dep hk
            simp only
            rw [ih m l lo (some k) (by omega) (by omega), ih m r (some k) hi (by omega) (by omega)]
        · exact hn
        · exact hn
theorem btw_non (lo hi : Option Int) : btw .non lo hi = true := rfl
theorem btw_bad {e : D} (h : e ≠ .non) (hk : knot e = none) (lo hi : Option Int) : btw e lo hi = false := by
  unfold btw
  cases hd : e.dep with
  | zero => cases e with
    | non => exact absurd rfl h
    | _ => rfl
  | succ n => rw [btwN, hk]; exact h
theorem btw_knot {e l r : D} {k : Int} (hk : knot e = some (l, k, r)) (lo hi : Option Int) : btw e lo hi = (okLo lo k && okHi hi k && btw l lo (some k) && btw r (some k) hi) := by
  have h := knot_dep hk
  have hn : e ≠ .non := by rw [knot_eq hk]; intro z; cases z
  unfold btw
  cases hd : e.dep with
  | zero => omega
  | succ n =>
    rw [btwN, hk]
    · simp only
      rw [btwN_more n l.dep l lo (some k) (by omega) (Nat.le_refl _), btwN_more n r.dep r (some k) hi (by omega) (Nat.le_refl _)]
    · exact hn
theorem knot_tr (l : Tr) (k : Int) (r : Tr) : knot (Tr.node l k r).d = some (l.d, k, r.d) := rfl
theorem btw_ord : ∀ (t : Tr) (lo hi : Option Int), t.ord lo hi → btw t.d lo hi = true
  | .nil, lo, hi, _ => rfl
  | .node l k r, lo, hi, ⟨h1, h2, h3, h4⟩ => by
    rw [btw_knot (knot_tr l k r), btw_ord l _ _ h3, btw_ord r _ _ h4]
    cases lo <;> cases hi <;> simp_all [okLo, okHi]
theorem btw_tr : ∀ (n : Nat) (e : D) (lo hi : Option Int), e.dep ≤ n → btw e lo hi = true → ∃ t : Tr, e = t.d := by
  intro n
  induction n with
  | zero =>
    intro e lo hi hd h
    by_cases hn : e = .non
    · exact ⟨.nil, hn⟩
    · cases hk : knot e with
      | none => rw [btw_bad hn hk] at h; cases h
      | some q => obtain ⟨l, k, r⟩ := q; have := knot_dep hk; omega
  | succ n ih =>
    intro e lo hi hd h
    by_cases hn : e = .non
    · exact ⟨.nil, hn⟩
    · cases hk : knot e with
      | none => rw [btw_bad hn hk] at h; cases h
      | some q =>
        obtain ⟨l, k, r⟩ := q
        have := knot_dep hk
        rw [btw_knot hk] at h
        simp only [Bool.and_eq_true] at h
        obtain ⟨tl, el⟩ := ih l _ _ (by omega) h.1.2
        obtain ⟨tr, er⟩ := ih r _ _ (by omega) h.2
        exact ⟨.node tl k tr, by rw [knot_eq hk, el, er]; rfl⟩
/-- is_tree's answer -/
def isTr (e : D) : Prop := ∃ t : Tr, e = t.d ∧ t.ord none none ∧ t.size ≤ 60
/-! ### permutations drawn -/
theorem nodup_append_of {xs ys : List Int} (hx : xs.Nodup) (hy : ys.Nodup) (h : ∀ x ∈ xs, ∀ y ∈ ys, x ≠ y) : (xs ++ ys).Nodup := List.nodup_append.mpr ⟨hx, hy, h⟩
theorem nodup_insert {xs : List Int} {x : Int} (i : Nat) (h : xs.Nodup) (hx : x ∉ xs) : (xs.take i ++ x :: xs.drop i).Nodup := by
  have hp : (xs.take i ++ x :: xs.drop i).Perm (x :: xs) := by
    have h1 : (xs.take i ++ x :: xs.drop i).Perm (x :: (xs.take i ++ xs.drop i)) := List.perm_middle
    rw [List.take_append_drop] at h1
    exact h1
  exact hp.nodup_iff.mpr (List.nodup_cons.mpr ⟨hx, h⟩)
theorem mem_insert {xs : List Int} {x y : Int} (i : Nat) : y ∈ xs.take i ++ x :: xs.drop i ↔ y = x ∨ y ∈ xs := by
  have hp : (xs.take i ++ x :: xs.drop i).Perm (x :: xs) := by
    have h1 : (xs.take i ++ x :: xs.drop i).Perm (x :: (xs.take i ++ xs.drop i)) := List.perm_middle
    rw [List.take_append_drop] at h1
    exact h1
  rw [hp.mem_iff, List.mem_cons]
/-- the keys of the ranks -/
theorem nodup_map_key {xs : List Int} {f : Int → Int} (h : xs.Nodup) (hf : ∀ a ∈ xs, ∀ b ∈ xs, f a = f b → a = b) : (xs.map f).Nodup := by
  induction xs with
  | nil => exact List.nodup_nil
  | cons x r ih =>
    obtain ⟨h1, h2⟩ := List.nodup_cons.mp h
    rw [List.map_cons]
    refine List.nodup_cons.mpr ⟨fun m => ?_, ih h2 fun a ha b hb => hf a (List.mem_cons_of_mem _ ha) b (List.mem_cons_of_mem _ hb)⟩
    obtain ⟨y, hy, e⟩ := List.mem_map.mp m
    have := hf y (List.mem_cons_of_mem _ hy) x List.mem_cons_self e
    subst this
    exact h1 hy
mutual
/-- how many tuples it holds -/
def D.cnt : D → Nat
  | .tup xs => cnts xs + 1
  | .lst xs => cnts xs
  | _ => 0
def cnts : List D → Nat
  | [] => 0
  | x :: r => x.cnt + cnts r
end
theorem Tr.cnt_d : ∀ t : Tr, t.d.cnt = t.size
  | .nil => rfl
  | .node l k r => by simp only [Tr.d, D.cnt, cnts, Tr.size, Tr.cnt_d l, Tr.cnt_d r]; omega
theorem Tr.size_foldl : ∀ (xs : List Int) (t : Tr), (xs.foldl (fun t x => t.ins x) t).size = t.size + xs.length
  | [], t => by simp
  | x :: r, t => by rw [List.foldl_cons, Tr.size_foldl r, Tr.ins_size, List.length_cons]; omega
theorem Tr.size_build (xs : List Int) : (Tr.build xs).size = xs.length := by
  unfold Tr.build
  rw [Tr.size_foldl]; simp [Tr.size]
theorem Tr.ht_dep : ∀ t : Tr, t.ht ≤ t.d.dep
  | .nil => Nat.le_refl _
  | .node l k r => by
    have := Tr.ht_dep l
    have := Tr.ht_dep r
    simp only [Tr.d, D.dep, deps, Tr.ht]
    omega
/-! ### the shapes of ranks -/
def upN (n : Nat) : List Int := (List.range n).map fun k : Nat => (k : Int)
theorem upN_length (n : Nat) : (upN n).length = n := by simp [upN]
theorem mem_upN {n : Nat} {x : Int} : x ∈ upN n ↔ 0 ≤ x ∧ x < n := by
  unfold upN
  simp only [List.mem_map, List.mem_range]
  constructor
  · rintro ⟨k, hk, rfl⟩; omega
  · rintro ⟨h1, h2⟩; exact ⟨x.toNat, by omega, by omega⟩
theorem upN_nodup (n : Nat) : (upN n).Nodup := by
  unfold upN
  rw [List.Nodup, List.pairwise_map]
  exact List.Pairwise.imp (fun h e => h (by omega)) List.nodup_range
/-- a list of n ranks, each once -/
structure Ranks (n : Nat) (xs : List Int) : Prop where
  nd : xs.Nodup
  bd : ∀ x ∈ xs, 0 ≤ x ∧ x < n
  len : xs.length = n
theorem ranks_up (n : Nat) : Ranks n (upN n) := ⟨upN_nodup n, fun _ h => mem_upN.mp h, upN_length n⟩
theorem ranks_down (n : Nat) : Ranks n (upN n).reverse := ⟨(List.reverse_perm _).nodup_iff.mpr (upN_nodup n), fun _ h => mem_upN.mp (List.mem_reverse.mp h), by rw [List.length_reverse, upN_length]⟩
def inOut (n k : Int) : Int := if k % 2 = 0 then k / 2 else n - 1 - k / 2
theorem ranks_inOut (n : Nat) : Ranks n ((upN n).map (inOut n)) := by
  refine ⟨nodup_map_key (upN_nodup n) fun a ha b hb e => ?_, fun x h => ?_, by rw [List.length_map, upN_length]⟩
  · have := mem_upN.mp ha
    have := mem_upN.mp hb
    unfold inOut at e
    split at e <;> split at e <;> omega
  · obtain ⟨k, hk, rfl⟩ := List.mem_map.mp h
    have := mem_upN.mp hk
    unfold inOut
    split <;> omega
/-- a list of the numbers from lo below hi, each once -/
structure Mids (lo hi : Int) (xs : List Int) : Prop where
  nd : xs.Nodup
  bd : ∀ x ∈ xs, lo ≤ x ∧ x < hi
  len : (xs.length : Int) = hi - lo
theorem mids_nil (lo : Int) : Mids lo lo [] := ⟨List.nodup_nil, by simp, by simp⟩
theorem mids_node {lo hi m : Int} {xs ys : List Int} (h1 : lo ≤ m) (h2 : m < hi) (hx : Mids lo m xs) (hy : Mids (m + 1) hi ys) : Mids lo hi ([m] ++ xs ++ ys) := by
  refine ⟨?_, fun x h => ?_, ?_⟩
  · refine nodup_append_of (nodup_append_of (by simp) hx.nd ?_) hy.nd ?_
    · intro a ha b hb e
      have := hx.bd b hb
      rw [List.mem_singleton] at ha
      omega
    · intro a ha b hb e
      have := hy.bd b hb
      rcases List.mem_append.mp ha with ha | ha
      · rw [List.mem_singleton] at ha; omega
      · have := hx.bd a ha; omega
  · rcases List.mem_append.mp h with h | h
    · rcases List.mem_append.mp h with h | h
      · rw [List.mem_singleton] at h; omega
      · have := hx.bd x h; omega
    · have := hy.bd x h; omega
  · have a := hx.len
    have b := hy.len
    simp only [List.length_append, List.length_singleton]
    omega
theorem Mids.ranks {n : Nat} {xs : List Int} (h : Mids 0 n xs) : Ranks n xs := ⟨h.nd, fun x hx => h.bd x hx, by have := h.len; omega⟩
/-- a list that is inserted into, place by place -/
theorem ranks_insert {k : Nat} {xs : List Int} (h : Ranks k xs) (i : Nat) : Ranks (k + 1) (xs.take i ++ (k : Int) :: xs.drop i) := by
  refine ⟨nodup_insert i h.nd fun m => ?_, fun x m => ?_, ?_⟩
  · have := h.bd _ m; omega
  · rcases (mem_insert i).mp m with e | m
    · omega
    · have := h.bd x m; omega
  · have := h.len
    simp only [List.length_append, List.length_take, List.length_cons, List.length_drop]
    omega
theorem ranks_zero : Ranks 0 [] := ⟨List.nodup_nil, by simp, rfl⟩
/-- the keys made of ranks -/
theorem sq_inj {a b : Int} (ha : 0 ≤ a) (hb : 0 ≤ b) (h : a * a = b * b) : a = b := by
  rcases Int.lt_trichotomy a b with l | e | l
  · have h1 : a * a ≤ a * b := Int.mul_le_mul_of_nonneg_left (Int.le_of_lt l) ha
    have h2 : a * b < b * b := Int.mul_lt_mul_of_pos_right l (by omega)
    omega
  · exact e
  · have h1 : b * b ≤ b * a := Int.mul_le_mul_of_nonneg_left (Int.le_of_lt l) hb
    have h2 : b * a < a * a := Int.mul_lt_mul_of_pos_right l (by omega)
    omega
theorem key_inj {first gap x y : Int} (hg : 0 < gap) (h : first + gap * x = first + gap * y) : x = y := by
  have h1 : gap * x = gap * y := by omega
  exact Int.eq_of_mul_eq_mul_left (by omega) h1
def keyOf (first gap : Int) (bent : Int) (r : Int) : Int := first + gap * (if bent = 0 then r else r * r)
theorem keys_nodup {n : Nat} {xs : List Int} (h : Ranks n xs) {first gap bent : Int} (hg : 0 < gap) : (xs.map (keyOf first gap bent)).Nodup := by
  refine nodup_map_key h.nd fun a ha b hb e => ?_
  have h1 := (h.bd a ha).1
  have h2 := (h.bd b hb).1
  unfold keyOf at e
  have e := key_inj hg e
  split at e
  · exact e
  · exact sq_inj h1 h2 e
theorem keyOf_bound {first gap bent r : Int} (h1 : -(10 ^ 59) ≤ first) (h2 : first ≤ 10 ^ 59) (h3 : 0 < gap) (h4 : gap ≤ 10 ^ 56) (h5 : 0 ≤ r) (h6 : r ≤ 61) : -(10 ^ 61) < keyOf first gap bent r ∧ keyOf first gap bent r < 10 ^ 61 := by
  unfold keyOf
  have hz : 0 ≤ (if bent = 0 then r else r * r) ∧ (if bent = 0 then r else r * r) ≤ 4000 := by
    split
    · omega
    · have a1 : 0 ≤ r * r := Int.mul_nonneg h5 h5
      have a2 : r * r ≤ 61 * r := Int.mul_le_mul_of_nonneg_right h6 h5
      omega
  generalize (if bent = 0 then r else r * r) = z at hz
  have b1 : 0 ≤ gap * z := Int.mul_nonneg (by omega) hz.1
  have b2 : gap * z ≤ gap * 4000 := Int.mul_le_mul_of_nonneg_left hz.2 (by omega)
  omega
end L3

namespace L3
/-! ### marks -/
def maxI : List Int → Int
  | [] => 0
  | [a] => a
  | a :: r => max a (maxI r)
theorem maxI_spec : ∀ (ns : List Int) (M : Int), M ∈ ns → (∀ a ∈ ns, a ≤ M) → M = maxI ns
  | [], M, h, _ => by simp at h
  | [a], M, h, _ => by simpa [maxI] using h
  | a :: b :: r, M, h, hm => by
    have ih := maxI_spec (b :: r)
    rw [maxI]
    · have hx : ∀ x ∈ b :: r, x ≤ maxI (b :: r) := fun x hx => by
        have key : ∀ (l : List Int), l ≠ [] → maxI l ∈ l ∧ ∀ x ∈ l, x ≤ maxI l := by
          intro l
          induction l with
          | nil => intro h; exact absurd rfl h
          | cons y t iht =>
            intro _
            cases t with
            | nil => simp [maxI]
            | cons z t =>
              obtain ⟨i1, i2⟩ := iht (by simp)
              rw [maxI]
              · constructor
                · rcases Int.le_total y (maxI (z :: t)) with h | h
                  · rw [Int.max_eq_right h]; exact List.mem_cons_of_mem _ i1
                  · rw [Int.max_eq_left h]; exact List.mem_cons_self
                · intro x hx
                  rcases List.mem_cons.mp hx with rfl | hx
                  · omega
                  · have := i2 x hx; omega
              · intro h; cases h
        exact (key (b :: r) (by simp)).2 x hx
      have hmem : maxI (b :: r) ∈ b :: r := by
        have key : ∀ (l : List Int), l ≠ [] → maxI l ∈ l := by
          intro l
          induction l with
          | nil => intro h; exact absurd rfl h
          | cons y t iht =>
            intro _
            cases t with
            | nil => simp [maxI]
            | cons z t =>
              have i1 := iht (by simp)
              rw [maxI]
              · rcases Int.le_total y (maxI (z :: t)) with h | h
                · rw [Int.max_eq_right h]; exact List.mem_cons_of_mem _ i1
                · rw [Int.max_eq_left h]; exact List.mem_cons_self
              · intro h; cases h
        exact key (b :: r) (by simp)
      have h1 := hm _ (List.mem_cons_of_mem a hmem)
      have h2 := hm a List.mem_cons_self
      rcases List.mem_cons.mp h with rfl | h
      · omega
      · have h3 := hx M h; omega
    · intro h; cases h
/-- the mark by those of the kids -/
def ruleM (ks : List (Int × Int)) (room : Int) : Int × Int :=
  if ks = [] then (1, 1) else
    let lv := maxI (ks.map (·.1))
    let sz := 1 + ((ks.filter fun p => decide (p.1 = lv)).map (·.2)).sum
    if sz ≤ room then (lv, sz) else (lv + 1, 1)
namespace Tr
def key? : Tr → List Int
  | nil => []
  | node _ k _ => [k]
def mark (room : Int) : Tr → Int × Int
  | nil => (0, 0)
  | node l _ r => ruleM ((match l with | nil => [] | node .. => [l.mark room]) ++ (match r with | nil => [] | node .. => [r.mark room])) room
def mk1 (room : Int) (t : Tr) : List (Int × Int) := match t with
  | nil => []
  | node .. => [t.mark room]
theorem mark_node (room : Int) (l : Tr) (k : Int) (r : Tr) : (node l k r).mark room = ruleM (l.mk1 room ++ r.mk1 room) room := by
  cases l <;> cases r <;> rfl
/-- the kids' keys, from below up -/
def wk : Tr → List (Int × List Int)
  | nil => []
  | node l k r => l.wk ++ r.wk ++ [(k, l.key? ++ r.key?)]
/-- the marks, from below up; in order -/
def pt (room : Int) : Tr → List (Int × Int × Int)
  | nil => []
  | node l k r => l.pt room ++ r.pt room ++ [(k, (node l k r).mark room)]
def io (room : Int) : Tr → List (Int × Int × Int)
  | nil => []
  | node l k r => l.io room ++ [(k, (node l k r).mark room)] ++ r.io room
theorem io_keys (room : Int) : ∀ t : Tr, (t.io room).map (·.1) = t.keys
  | nil => rfl
  | node l k r => by simp [io, keys, io_keys room l, io_keys room r]
theorem io_pt (room : Int) : ∀ (t : Tr) (e : Int × Int × Int), e ∈ t.io room → e ∈ t.pt room
  | nil, e, h => h
  | node l k r, e, h => by
    simp only [io, pt, List.mem_append, List.mem_singleton] at h ⊢
    rcases h with (h | h) | h
    · exact .inl (.inl (io_pt room l e h))
    · exact .inr h
    · exact .inl (.inr (io_pt room r e h))
theorem pt_perm (room : Int) : ∀ t : Tr, ((t.pt room).map (·.1)).Perm t.keys
  | nil => .refl _
  | node l k r => by
    simp only [pt, keys, List.map_append, List.map_cons, List.map_nil]
    have h1 := pt_perm room l
    have h2 := pt_perm room r
    have h3 : ((l.pt room).map (·.1) ++ (r.pt room).map (·.1) ++ [k]).Perm (l.keys ++ r.keys ++ [k]) := (h1.append h2).append_right _
    refine h3.trans ?_
    rw [List.append_assoc, List.append_assoc]
    exact List.Perm.append_left _ List.perm_append_comm
theorem pt_length (room : Int) (t : Tr) : (t.pt room).length = t.size := by
  have := (pt_perm room t).length_eq
  rw [List.length_map, keys_length] at this
  exact this
theorem wk_length : ∀ t : Tr, t.wk.length = t.size
  | nil => rfl
  | node l k r => by simp only [wk, List.length_append, List.length_singleton, wk_length l, wk_length r, size]; omega
end Tr
/-! ### tables of marks -/
abbrev Tab := List (Int × Int × Int)
def look (tb : Tab) (k : Int) : Option (Int × Int) := (tb.find? fun e => decide (e.1 = k)).map (·.2)
theorem look_mem : ∀ {tb : Tab} {k : Int} {m : Int × Int}, (tb.map (·.1)).Nodup → (k, m) ∈ tb → look tb k = some m
  | [], k, m, _, h => by simp at h
  | e :: r, k, m, hn, h => by
    obtain ⟨h1, h2⟩ := List.nodup_cons.mp (show (e.1 :: r.map (·.1)).Nodup from hn)
    unfold look
    rw [List.find?_cons]
    rcases List.mem_cons.mp h with e1 | h'
    · subst e1; simp
    · have hne : ¬ e.1 = k := fun z => h1 (by rw [z]; exact List.mem_map.mpr ⟨_, h', rfl⟩)
      simp only [hne, decide_false]
      exact look_mem h2 h'
theorem mem_look : ∀ {tb : Tab} {k : Int} {m : Int × Int}, look tb k = some m → (k, m) ∈ tb := by
  intro tb k m h
  unfold look at h
  obtain ⟨e, he, rfl⟩ := Option.map_eq_some_iff.mp h
  have h1 := List.mem_of_find?_eq_some he
  have h2 := List.find?_some he
  have : e.1 = k := of_decide_eq_true h2
  rw [← this]; exact h1
/-- one row more, by the kids' rows -/
def stepT (room : Int) (tb : Tab) (e : Int × List Int) : Tab := tb ++ [(e.1, ruleM (e.2.filterMap (look tb)) room)]
namespace Tr
theorem key_mark (room : Int) (t : Tr) (k : Int) (h : k ∈ t.key?) : (k, t.mark room) ∈ t.pt room := by
  cases t with
  | nil => simp [key?] at h
  | node l x r => simp [key?] at h; subst h; simp [pt]
theorem kids_look (room : Int) (t : Tr) {tb : Tab} (hn : (tb.map (·.1)).Nodup) (hs : ∀ e ∈ t.pt room, e ∈ tb) : t.key?.filterMap (look tb) = t.mk1 room := by
  cases t with
  | nil => rfl
  | node l x r =>
    have : look tb x = some ((node l x r).mark room) := look_mem hn (hs _ (key_mark room _ x (by simp [key?])))
    simp [key?, mk1, this]
theorem fold_wk (room : Int) : ∀ (t : Tr) (tb : Tab), ((tb ++ t.pt room).map (·.1)).Nodup → t.wk.foldl (stepT room) tb = tb ++ t.pt room
  | nil, tb, _ => by simp [wk, pt]
  | node l k r, tb, h => by
    rw [pt, ← List.append_assoc, ← List.append_assoc] at h
    have h3 : ((tb ++ l.pt room ++ r.pt room).map (·.1)).Nodup := by
      rw [List.map_append] at h
      exact (List.nodup_append.mp h).1
    have h2 : ((tb ++ l.pt room).map (·.1)).Nodup := by
      rw [List.map_append] at h3
      exact (List.nodup_append.mp h3).1
    rw [wk, List.foldl_append, List.foldl_append, fold_wk room l tb h2, fold_wk room r _ h3, List.foldl_cons, List.foldl_nil]
    unfold stepT
    rw [List.filterMap_append, kids_look room l h3 (fun e he => by simp [he]), kids_look room r h3 (fun e he => by simp [he]), ← mark_node room l k r, pt]
    simp [List.append_assoc]
theorem wk_keys (room : Int) : ∀ t : Tr, t.wk.map (·.1) = (t.pt room).map (·.1)
  | nil => rfl
  | node l k r => by simp [wk, pt, wk_keys room l, wk_keys room r]
theorem pt_nodup (room : Int) {t : Tr} (h : t.keys.Nodup) : ((t.pt room).map (·.1)).Nodup := (pt_perm room t).nodup_iff.mpr h
end Tr
theorem step_keys (room : Int) : ∀ (w : List (Int × List Int)) (tb : Tab), (w.foldl (stepT room) tb).map (·.1) = tb.map (·.1) ++ w.map (·.1)
  | [], tb => by simp
  | e :: r, tb => by rw [List.foldl_cons, step_keys room r]; simp [stepT]
/-- every kid has its row ahead -/
def Ahead : List (Int × List Int) → List Int → Prop
  | [], _ => True
  | e :: r, seen => (∀ k ∈ e.2, k ∈ seen) ∧ Ahead r (seen ++ [e.1])
theorem ahead_append : ∀ (a b : List (Int × List Int)) (seen : List Int), Ahead (a ++ b) seen ↔ Ahead a seen ∧ Ahead b (seen ++ a.map (·.1))
  | [], b, seen => by simp [Ahead]
  | e :: r, b, seen => by
    rw [List.cons_append, Ahead, Ahead, ahead_append r b, List.map_cons]
    simp [List.append_assoc, and_assoc]
theorem ahead_mono : ∀ (a : List (Int × List Int)) (s s' : List Int), (∀ x ∈ s, x ∈ s') → Ahead a s → Ahead a s'
  | [], _, _, _, _ => trivial
  | e :: r, s, s', h, ⟨h1, h2⟩ => ⟨fun k hk => h k (h1 k hk), ahead_mono r _ _ (fun x hx => by
      rcases List.mem_append.mp hx with q | q
      · exact List.mem_append_left _ (h x q)
      · exact List.mem_append_right _ q) h2⟩
theorem Tr.wk_ahead : ∀ t : Tr, Ahead t.wk []
  | .nil => trivial
  | .node l k r => by
    rw [Tr.wk, ahead_append, ahead_append]
    refine ⟨⟨Tr.wk_ahead l, ahead_mono _ _ _ (by simp) (Tr.wk_ahead r)⟩, ?_, trivial⟩
    intro x hx
    have key : ∀ t : Tr, ∀ x ∈ t.key?, x ∈ t.wk.map (·.1) := by
      intro t x hx
      cases t with
      | nil => simp [Tr.key?] at hx
      | node l x r => simp [Tr.key?] at hx; subst hx; simp [Tr.wk]
    simp only [List.mem_append] at hx
    simp only [List.map_append, List.nil_append, List.mem_append]
    rcases hx with hx | hx
    · exact .inl (key l x hx)
    · exact .inr (key r x hx)
theorem ahead_at : ∀ (w : List (Int × List Int)) (seen : List Int) (i : Nat) (e : Int × List Int), Ahead w seen → w[i]? = some e → ∀ k ∈ e.2, k ∈ seen ++ (w.take i).map (·.1)
  | [], _, i, e, _, h => by simp at h
  | x :: r, seen, 0, e, ⟨h1, _⟩, h => by simp at h; subst h; intro k hk; simpa using h1 k hk
  | x :: r, seen, i + 1, e, ⟨_, h2⟩, h => by
    intro k hk
    have := ahead_at r (seen ++ [x.1]) i e h2 (by simpa using h) k hk
    simpa [List.append_assoc] using this
theorem Tr.wk_small : ∀ (t : Tr) (e : Int × List Int), e ∈ t.wk → e.2.length ≤ 2
  | .nil, e, h => by simp [Tr.wk] at h
  | .node l k r, e, h => by
    simp only [Tr.wk, List.mem_append, List.mem_singleton] at h
    rcases h with (h | h) | h
    · exact Tr.wk_small l e h
    · exact Tr.wk_small r e h
    · subst h
      have : ∀ t : Tr, t.key?.length ≤ 1 := fun t => by cases t <;> simp [Tr.key?]
      have h1 := this l
      have h2 := this r
      simp only [List.length_append]
      omega
/-- a tree that is there -/
def Tr.sub (t : Tr) : List Tr := match t with
  | .nil => []
  | .node .. => [t]
theorem Tr.sub_pt (room : Int) (t : Tr) : t.sub.flatMap (Tr.pt room) = t.pt room := by cases t <;> simp [Tr.sub, Tr.pt]
theorem Tr.sub_mk (room : Int) (t : Tr) : t.sub.map (Tr.mark room) = t.mk1 room := by cases t <;> simp [Tr.sub, Tr.mk1]
end L3

/-! what the laws' own texts share -/
namespace L3
open PySem L2
def PenAt (H : Hp) (p : Addr) : Prop := ∃ m n, H p = some (.lst [.int m, .int n])
theorem PenAt.mono {H H' : Hp} {p : Addr} (h : PenAt H p) (s : Same H H') : PenAt H' p := by
  obtain ⟨m, n, e⟩ := h
  exact ⟨m, n, s _ _ e⟩
theorem PenAt.ne {H : Hp} {p l : Addr} (h : PenAt H p) (e : H l = none) : l ≠ p := by
  obtain ⟨m, n, q⟩ := h
  intro z
  rw [z, q] at e; cases e
theorem PenAt.free {H H' : Hp} {p l : Addr} (h : PenAt H' p) (s : Same (rm p H) H') (e : H' l = none) : H l = none := by
  obtain ⟨m, n, q⟩ := h
  exact rm_free s e q
def vO : Option Int → V
  | none => .non
  | some i => .int i
theorem rep_node {H : Hp} {v : V} {l r : Tr} {k : Int} (h : Rep H v (Tr.node l k r).d) : ∃ a vl vr, v = .ref a ∧ H a = some (.tup [vl, .int k, vr]) ∧ Rep H vl l.d ∧ Rep H vr r.d := by
  cases h with
  | @tup a vs xs e rs =>
    cases rs with
    | cons h1 r1 =>
      cases r1 with
      | cons h2 r2 =>
        cases r2 with
        | cons h3 r3 =>
          cases r3
          cases h2
          exact ⟨a, _, _, rfl, e, h1, h3⟩
theorem rep_nil {H : Hp} {v : V} (h : Rep H v Tr.nil.d) : v = .non := by cases h; rfl
theorem rep_mk {H : Hp} {a : Addr} {vl vr : V} {k : Int} {l r : D} (e : H a = some (.tup [vl, .int k, vr])) (h1 : Rep H vl l) (h2 : Rep H vr r) : Rep H (.ref a) (.tup [l, .int k, r]) := .tup e (.cons h1 (.cons (.int k) (.cons h2 .nil)))
theorem rep_tup {H : Hp} {v : V} {xs : List D} (h : Rep H v (.tup xs)) : ∃ a vs, v = .ref a ∧ H a = some (.tup vs) ∧ Reps H vs xs := by
  cases h with
  | tup e r => exact ⟨_, _, rfl, e, r⟩
theorem rep_rm {H : Hp} {p : Addr} {vs : List V} (hp : H p = some (.lst vs)) : ∀ (t : Tr) {v : V}, Rep H v t.d → Rep (rm p H) v t.d
  | .nil, v, h => by cases rep_nil h; exact .non
  | .node l k r, v, h => by
    obtain ⟨a, vl, vr, rfl, ea, hl, hr⟩ := rep_node h
    exact rep_mk (by rw [rm_ne (fun z => by rw [z, hp] at ea; cases ea)]; exact ea) (rep_rm hp l hl) (rep_rm hp r hr)
theorem rep_pen {H : Hp} {p : Addr} (hp : PenAt H p) (t : Tr) {v : V} (h : Rep H v t.d) : Rep (rm p H) v t.d := by
  obtain ⟨m, n, e⟩ := hp
  exact rep_rm e t h
/-- a tree's value is none or its top's tuple -/
theorem rep_isNon {H : Hp} {v : V} {t : Tr} (h : Rep H v t.d) : decide (v = V.non) = (match t with | .nil => true | .node .. => false) := by
  cases t with
  | nil => cases rep_nil h; rfl
  | node l k r => obtain ⟨a, _, _, rfl, _⟩ := rep_node h; rfl
theorem erv {n : Int} : rangeVs 0 n = (upN n.toNat).map V.int := by
  unfold rangeVs upN
  rw [List.map_map, Int.sub_zero]
  apply List.map_congr_left
  intro k _
  show V.int (0 + (k : Int)) = V.int (k : Int)
  rw [Int.zero_add]
theorem upN_succ (i : Nat) : upN (i + 1) = upN i ++ [(i : Int)] := by
  unfold upN
  rw [List.range_succ, List.map_append]; rfl
/-! ### lists of ints as data -/
theorem pures_ints : ∀ ns : List Int, pures (ns.map D.int) = true
  | [] => rfl
  | n :: r => by rw [List.map_cons, pures, pures_ints r]; rfl
theorem deps_ints : ∀ ns : List Int, deps (ns.map D.int) = 0
  | [] => rfl
  | n :: r => by rw [List.map_cons, deps, deps_ints r]; rfl
theorem rep_ints {H : Hp} {a : Addr} {ns : List Int} (h : H a = some (.lst (ns.map V.int))) : Rep H (.ref a) (.lst (ns.map D.int)) := .lst h (Reps.ints ns)
/-! ### slices -/
theorem cut_hi (xs : List V) (k : Nat) : cutV xs none (some (k : Int)) = xs.take k := by
  unfold cutV
  rw [HT.sIx_none, HT.sIx_nat, List.drop_zero, Nat.sub_zero]
  rcases Nat.le_total k xs.length with h | h
  · rw [Nat.min_eq_left h]
  · rw [Nat.min_eq_right h, List.take_length, List.take_of_length_le h]
theorem cut_lo (xs : List V) (k : Nat) : cutV xs (some (k : Int)) none = xs.drop k := by
  unfold cutV
  rw [HT.sIx_none, HT.sIx_nat]
  rw [List.take_of_length_le (by rw [List.length_drop]; omega)]
  rcases Nat.le_total k xs.length with h | h
  · rw [Nat.min_eq_left h]
  · rw [Nat.min_eq_right h, List.drop_length, List.drop_eq_nil_of_le h]
end L3

/-! dicts of marks; data apart from a dict or a list -/
namespace L3
open PySem L2
inductive DT (H : Hp) : List (Key × V) → Tab → Prop where
  | nil : DT H [] []
  | cons {k lv sz : Int} {b : Addr} {kvs : List (Key × V)} {tb : Tab} : H b = some (.tup [.int lv, .int sz]) → DT H kvs tb → DT H ((Sum.inl k, .ref b) :: kvs) ((k, lv, sz) :: tb)
theorem DT.mono {H H' : Hp} {kvs : List (Key × V)} {tb : Tab} (h : DT H kvs tb) (s : Same H H') : DT H' kvs tb := by
  induction h with
  | nil => exact .nil
  | cons e _ ih => exact .cons (s _ _ e) ih
theorem DT.upd {H : Hp} {kvs : List (Key × V)} {tb : Tab} {d : Addr} {o o' : HO} (h : DT H kvs tb) (hd : H d = some o) (ho : ∀ vs, o ≠ .tup vs) : DT (L2.upd H d o') kvs tb := by
  induction h with
  | nil => exact .nil
  | cons e _ ih =>
    refine .cons ?_ ih
    rw [upd_ne (fun z => by rw [z, hd] at e; exact ho _ (Option.some.inj e))]
    exact e
theorem DT.length {H : Hp} {kvs : List (Key × V)} {tb : Tab} (h : DT H kvs tb) : kvs.length = tb.length := by
  induction h with
  | nil => rfl
  | cons _ _ ih => rw [List.length_cons, List.length_cons, ih]
theorem DT.append {H : Hp} {a b : List (Key × V)} {s t : Tab} (h : DT H a s) (h' : DT H b t) : DT H (a ++ b) (s ++ t) := by
  induction h with
  | nil => exact h'
  | cons e _ ih => exact .cons e ih
theorem DT.val {H : Hp} {kvs : List (Key × V)} {tb : Tab} (h : DT H kvs tb) {k : Int} {m : Int × Int} (e : look tb k = some m) : ∃ b, valV kvs (Sum.inl k : Key) = some (.ref b) ∧ H b = some (.tup [.int m.1, .int m.2]) := by
  induction h with
  | nil => simp [look] at e
  | @cons k' lv sz b kvs tb eb _ ih =>
    unfold look at e
    rw [List.find?_cons] at e
    by_cases hk : k' = k
    · subst hk
      simp at e
      subst e
      exact ⟨b, valV_pos rfl, eb⟩
    · simp only [hk, decide_false] at e
      obtain ⟨b', h1, h2⟩ := ih e
      exact ⟨b', by rw [valV_neg (by simpa using hk)]; exact h1, h2⟩
theorem DT.none {H : Hp} {kvs : List (Key × V)} {tb : Tab} (h : DT H kvs tb) {k : Int} (hk : k ∉ tb.map (·.1)) : valV kvs (Sum.inl k : Key) = Option.none := by
  induction h with
  | nil => rfl
  | @cons k' lv sz b kvs tb eb _ ih =>
    simp only [List.map_cons, List.mem_cons, not_or] at hk
    rw [valV_neg (by simpa using fun z => hk.1 z.symm)]
    exact ih hk.2
theorem DT.put {H : Hp} {kvs : List (Key × V)} {tb : Tab} (h : DT H kvs tb) {k lv sz : Int} {b : Addr} (hk : k ∉ tb.map (·.1)) (eb : H b = some (.tup [.int lv, .int sz])) : DT H (putK kvs (Sum.inl k : Key) (.ref b)) (tb ++ [(k, lv, sz)]) := by
  rw [putK_new _ (h.none hk)]
  exact h.append (.cons eb .nil)
theorem DT.merge {H : Hp} : ∀ {more : List (Key × V)} {t : Tab} {kvs : List (Key × V)} {s : Tab}, DT H more t → DT H kvs s → ((s ++ t).map (·.1)).Nodup → DT H (mergeK kvs more) (s ++ t) := by
  intro more t kvs s h
  induction h generalizing kvs s with
  | nil => intro h' _; simpa [mergeK] using h'
  | @cons k lv sz b kvs' tb eb _ ih =>
    intro h' hn
    have hn' : ((s ++ [(k, lv, sz)] ++ tb).map (·.1)).Nodup := by simpa using hn
    have hk : k ∉ s.map (·.1) := by
      rw [List.map_append, List.nodup_append] at hn
      intro hm
      exact hn.2.2 k hm k (by simp) rfl
    have := ih (h'.put hk eb) hn'
    simpa [mergeK] using this
/-! ### pairs and rows as data -/
def pairD (m : Int × Int) : D := .tup [.int m.1, .int m.2]
def rowD (e : Int × Int × Int) : D := .tup [.int e.1, .int e.2.1, .int e.2.2]
def kidD (e : Int × List Int) : D := .tup [.int e.1, .lst (e.2.map D.int)]
theorem rep_lst {H : Hp} {v : V} {xs : List D} (h : Rep H v (.lst xs)) : ∃ a vs, v = .ref a ∧ H a = some (.lst vs) ∧ Reps H vs xs := by
  cases h with
  | lst e r => exact ⟨_, _, rfl, e, r⟩
theorem rep_int {H : Hp} {v : V} {i : Int} (h : Rep H v (.int i)) : v = .int i := by cases h; rfl
theorem rep_pair {H : Hp} {v : V} {m : Int × Int} (h : Rep H v (pairD m)) : ∃ b, v = .ref b ∧ H b = some (.tup [.int m.1, .int m.2]) := by
  obtain ⟨a, vs, rfl, e, rs⟩ := rep_tup h
  cases rs with
  | cons h1 rs =>
    cases rs with
    | cons h2 rs =>
      cases rs
      cases rep_int h1
      cases rep_int h2
      exact ⟨a, rfl, e⟩
theorem pair_rep {H : Hp} {b : Addr} {m : Int × Int} (h : H b = some (.tup [.int m.1, .int m.2])) : Rep H (.ref b) (pairD m) := .tup h (.cons (.int _) (.cons (.int _) .nil))
theorem reps_ints : ∀ {H : Hp} {vs : List V} {ns : List Int}, Reps H vs (ns.map D.int) → vs = ns.map V.int
  | _, [], [], .nil => rfl
  | H, _, n :: r, h => by
    cases h with
    | cons h1 h2 => rw [rep_int h1, reps_ints h2]; rfl
theorem rep_kid {H : Hp} {v : V} {e : Int × List Int} (h : Rep H v (kidD e)) : ∃ b c, v = .ref b ∧ H b = some (.tup [.int e.1, .ref c]) ∧ H c = some (.lst (e.2.map V.int)) := by
  obtain ⟨a, vs, rfl, ea, rs⟩ := rep_tup h
  cases rs with
  | cons h1 rs =>
    cases rs with
    | cons h2 rs =>
      cases rs
      cases rep_int h1
      obtain ⟨c, ws, rfl, ec, rw'⟩ := rep_lst h2
      rw [reps_ints rw'] at ec
      exact ⟨a, c, rfl, ea, ec⟩
theorem reps_map {H : Hp} {α : Type} {f : α → D} : ∀ {vs : List V} {xs : List α} {i : Nat} {v : V}, Reps H vs (xs.map f) → vs[i]? = some v → ∃ x, xs[i]? = some x ∧ Rep H v (f x) := by
  intro vs xs i v h e
  obtain ⟨d, h1, h2⟩ := h.get e
  rw [List.getElem?_map] at h1
  obtain ⟨x, hx, rfl⟩ := Option.map_eq_some_iff.mp h1
  exact ⟨x, hx, h2⟩
mutual
/-- data without a dict stand apart from a dict -/
theorem Rep.apart {H : Hp} {d : Addr} {kvs : List (Key × V)} (hd : H d = some (.dK kvs)) {v : V} {e : D} : Rep H v e → e.pure = true → Rep (rm d H) v e
  | .non, _ => .non
  | .bl b, _ => .bl b
  | .int i, _ => .int i
  | .str x, _ => .str x
  | .tup (a := a) ea r, h => .tup (by rw [rm_ne (fun z => by rw [z, hd] at ea; cases ea)]; exact ea) (Reps.apart hd r (by rw [D.pure] at h; exact h))
  | .lst (a := a) ea r, h => .lst (by rw [rm_ne (fun z => by rw [z, hd] at ea; cases ea)]; exact ea) (Reps.apart hd r (by rw [D.pure] at h; exact h))
  | .emp _, h => by rw [D.pure] at h; cases h
theorem Reps.apart {H : Hp} {d : Addr} {kvs : List (Key × V)} (hd : H d = some (.dK kvs)) {vs : List V} {es : List D} : Reps H vs es → pures es = true → Reps (rm d H) vs es
  | .nil, _ => .nil
  | .cons h r, q => by
    rw [pures, Bool.and_eq_true] at q
    exact .cons (Rep.apart hd h q.1) (Reps.apart hd r q.2)
end
theorem pures_map {α : Type} {f : α → D} (hf : ∀ x, (f x).pure = true) : ∀ xs : List α, pures (xs.map f) = true
  | [] => rfl
  | x :: r => by rw [List.map_cons, pures, hf x, pures_map hf r]; rfl
theorem pure_pair (m : Int × Int) : (pairD m).pure = true := rfl
theorem pure_row (e : Int × Int × Int) : (rowD e).pure = true := rfl
theorem pure_kid (e : Int × List Int) : (kidD e).pure = true := by
  show (true && (pures (e.2.map D.int) && true)) = true
  rw [pures_ints]; rfl
theorem deps_map {α : Type} {f : α → D} {n : Nat} (hf : ∀ x, (f x).dep ≤ n) : ∀ xs : List α, deps (xs.map f) ≤ n
  | [] => Nat.zero_le _
  | x :: r => by rw [List.map_cons, deps]; have := hf x; have := deps_map hf r; omega
theorem dep_row (e : Int × Int × Int) : (rowD e).dep ≤ 1 := Nat.le_refl _
end L3

/-! pens of three cells; lists of lists; lists compared -/
namespace L3
open PySem L2
def Pen3 (H : Hp) (p : Addr) : Prop := ∃ m n c, H p = some (.lst [.int m, .int n, .int c])
theorem Pen3.mono {H H' : Hp} {p : Addr} (h : Pen3 H p) (s : Same H H') : Pen3 H' p := by
  obtain ⟨m, n, c, e⟩ := h
  exact ⟨m, n, c, s _ _ e⟩
theorem Pen3.ne {H : Hp} {p l : Addr} (h : Pen3 H p) (e : H l = none) : l ≠ p := by
  obtain ⟨m, n, c, q⟩ := h
  intro z
  rw [z, q] at e; cases e
theorem Pen3.free {H H' : Hp} {p l : Addr} (h : Pen3 H' p) (s : Same (rm p H) H') (e : H' l = none) : H l = none := by
  obtain ⟨m, n, c, q⟩ := h
  exact rm_free s e q
theorem Pen3.off {H : Hp} {p l : Addr} {o : HO} (h : Pen3 H p) (hl : p ≠ l) : Pen3 (upd H l o) p := by
  obtain ⟨m, n, c, q⟩ := h
  exact ⟨m, n, c, by rw [upd_ne hl]; exact q⟩
theorem rep_pen3 {H : Hp} {p : Addr} (hp : Pen3 H p) (t : Tr) {v : V} (h : Rep H v t.d) : Rep (rm p H) v t.d := by
  obtain ⟨m, n, c, e⟩ := hp
  exact rep_rm e t h
theorem atI_last {α : Type} (xs : List α) (x : α) : atI (xs ++ [x]) (-1) = some x := by
  unfold atI ixN
  rw [if_neg (by decide), if_pos (by simp; omega)]
  show (xs ++ [x])[(-1 + ((xs ++ [x]).length : Int)).toNat]? = some x
  have e : (-1 + ((xs ++ [x]).length : Int)).toNat = xs.length := by simp; omega
  rw [e, List.getElem?_append_right (Nat.le_refl _)]; simp
theorem seqIx {k n : Nat} (h : k < n) : seqIndex? (k : Int) n = some k := (ixN_seq (i := (k : Int)) (by unfold ixN; rw [if_pos (by omega), if_pos (by omega)]; simp)).1
theorem erase_map {α β : Type} (f : α → β) : ∀ (xs : List α) (k : Nat), (xs.map f).eraseIdx k = (xs.eraseIdx k).map f
  | [], _ => rfl
  | x :: xs, 0 => rfl
  | x :: xs, k + 1 => by simp [erase_map f xs k]
theorem erase_len {α : Type} : ∀ (xs : List α) (k : Nat), k < xs.length → (xs.eraseIdx k).length + 1 = xs.length
  | x :: xs, 0, _ => rfl
  | x :: xs, k + 1, h => by
    have := erase_len xs k (by simpa using h)
    simp; omega
theorem erase_perm {α : Type} : ∀ (xs : List α) (k : Nat) (x : α), xs[k]? = some x → (x :: xs.eraseIdx k).Perm xs
  | [], _, _, h => by simp at h
  | y :: xs, 0, x, h => by simp at h; subst h; exact List.Perm.refl _
  | y :: xs, k + 1, x, h => by
    have ih := erase_perm xs k x (by simpa using h)
    exact (List.Perm.swap y x _).trans (ih.cons y)
/-! ### lists compared -/
theorem ne_ints {H : Hp} {a b : Addr} {xs ys : List Int} {Q : VK} (ea : H a = some (.lst (xs.map V.int))) (eb : H b = some (.lst (ys.map V.int))) (h : Q (.bl (!decide (xs = ys))) H) : rNeG 150 (.ref a) (.ref b) H Q := by
  refine ⟨_, _, rep_ints ea, rep_ints eb, by rw [D.pure]; exact pures_ints xs, by rw [D.pure]; exact pures_ints ys, by rw [D.dep, deps_ints]; decide, ?_⟩
  by_cases he : xs = ys
  · subst he
    rw [D.eqv_refl]
    simpa using h
  · have hne : (D.lst (xs.map D.int)).eqv (.lst (ys.map D.int)) = false := eqv_ne (by rw [D.pure]; exact pures_ints xs) (by rw [D.pure]; exact pures_ints ys) (fun z => he (by
      injection z with z
      exact (List.map_inj_right (fun _ _ q => by injection q)).mp z))
    rw [hne]
    rw [decide_eq_false he] at h
    exact h
theorem eq_ints {H : Hp} {a b : Addr} {xs ys : List Int} {Q : VK} (ea : H a = some (.lst (xs.map V.int))) (eb : H b = some (.lst (ys.map V.int))) (h : Q (.bl (decide (xs = ys))) H) : rEqG 150 (.ref a) (.ref b) H Q := by
  refine ⟨_, _, rep_ints ea, rep_ints eb, by rw [D.pure]; exact pures_ints xs, by rw [D.pure]; exact pures_ints ys, by rw [D.dep, deps_ints]; decide, ?_⟩
  by_cases he : xs = ys
  · subst he
    rw [D.eqv_refl]
    simpa using h
  · have hne : (D.lst (xs.map D.int)).eqv (.lst (ys.map D.int)) = false := eqv_ne (by rw [D.pure]; exact pures_ints xs) (by rw [D.pure]; exact pures_ints ys) (fun z => he (by
      injection z with z
      exact (List.map_inj_right (fun _ _ q => by injection q)).mp z))
    rw [hne]
    rw [decide_eq_false he] at h
    exact h
/-- two things told alike -/
theorem ne_same {H : Hp} {a b : Addr} {e : D} {Q : VK} (ra : Rep H (.ref a) e) (rb : Rep H (.ref b) e) (hp : e.pure = true) (hd : e.dep ≤ 140) (h : Q (.bl false) H) : rNeG 150 (.ref a) (.ref b) H Q := by
  refine ⟨_, _, ra, rb, hp, hp, by omega, ?_⟩
  rw [D.eqv_refl]; exact h
theorem eq_same {H : Hp} {a b : Addr} {e : D} {Q : VK} (ra : Rep H (.ref a) e) (rb : Rep H (.ref b) e) (hp : e.pure = true) (hd : e.dep ≤ 140) (h : Q (.bl true) H) : rEqG 150 (.ref a) (.ref b) H Q := by
  refine ⟨_, _, ra, rb, hp, hp, by omega, ?_⟩
  rw [D.eqv_refl]; exact h
theorem inV_ints (k : Int) : ∀ ws : List Int, inV (.int k) (ws.map V.int) = decide (k ∈ ws)
  | [] => by simp [inV]
  | w :: ws => by
    have ih := inV_ints k ws
    unfold inV at ih ⊢
    rw [List.map_cons, List.any_cons, ih]
    by_cases h : w = k
    · subst h; simp [eqV]
    · have h' : ¬ k = w := fun z => h z.symm
      simp [eqV, h, h']
theorem flat_ints : ∀ ws : List Int, (ws.map V.int).all flatV = true
  | [] => rfl
  | w :: ws => by rw [List.map_cons, List.all_cons, flat_ints ws]; rfl
/-! ### lists of lists of ints -/
def Pgs (H : Hp) : List Addr → List (List Int) → Prop
  | [], [] => True
  | b :: bs, p :: ps => H b = some (.lst (p.map V.int)) ∧ Pgs H bs ps
  | _, _ => False
theorem Pgs.stay {H H' : Hp} : ∀ {bs : List Addr} {ps : List (List Int)}, Pgs H bs ps → (∀ b ∈ bs, H' b = H b) → Pgs H' bs ps
  | [], [], _, _ => trivial
  | b :: bs, p :: ps, h, s => ⟨by rw [s b (by simp)]; exact h.1, h.2.stay (fun c hc => s c (by simp [hc]))⟩
  | [], _ :: _, h, _ => h.elim
  | _ :: _, [], h, _ => h.elim
theorem Pgs.mono {H H' : Hp} : ∀ {bs : List Addr} {ps : List (List Int)}, Pgs H bs ps → Same H H' → Pgs H' bs ps
  | [], [], _, _ => trivial
  | b :: bs, p :: ps, h, s => ⟨s _ _ h.1, h.2.mono s⟩
  | [], _ :: _, h, _ => h.elim
  | _ :: _, [], h, _ => h.elim
theorem Pgs.len {H : Hp} : ∀ {bs : List Addr} {ps : List (List Int)}, Pgs H bs ps → bs.length = ps.length
  | [], [], _ => rfl
  | b :: bs, p :: ps, h => by simp [h.2.len]
  | [], _ :: _, h => h.elim
  | _ :: _, [], h => h.elim
theorem Pgs.snoc {H : Hp} {b : Addr} {p : List Int} : ∀ {bs : List Addr} {ps : List (List Int)}, Pgs H bs ps → H b = some (.lst (p.map V.int)) → Pgs H (bs ++ [b]) (ps ++ [p])
  | [], [], _, e => ⟨e, trivial⟩
  | c :: bs, q :: ps, h, e => ⟨h.1, h.2.snoc e⟩
  | [], _ :: _, h, _ => h.elim
  | _ :: _, [], h, _ => h.elim
theorem Pgs.unsnoc {H : Hp} {p : List Int} : ∀ {bs : List Addr} {ps : List (List Int)}, Pgs H bs (ps ++ [p]) → ∃ cs b, bs = cs ++ [b] ∧ Pgs H cs ps ∧ H b = some (.lst (p.map V.int))
  | [], [], h => h.elim
  | [], _ :: _, h => h.elim
  | b :: bs, [], h => by
    cases bs with
    | nil => exact ⟨[], b, rfl, trivial, h.1⟩
    | cons c cs => exact h.2.elim
  | b :: bs, q :: ps, h => by
    obtain ⟨cs, c, rfl, g1, g2⟩ := Pgs.unsnoc (bs := bs) (ps := ps) h.2
    exact ⟨b :: cs, c, rfl, ⟨h.1, g1⟩, g2⟩
theorem Pgs.at {H : Hp} : ∀ {bs : List Addr} {ps : List (List Int)} {j : Nat} {b : Addr}, Pgs H bs ps → bs[j]? = some b → ∃ p, ps[j]? = some p ∧ H b = some (.lst (p.map V.int))
  | [], [], _, _, _, e => by simp at e
  | c :: bs, q :: ps, 0, b, h, e => by simp at e; subst e; exact ⟨q, rfl, h.1⟩
  | c :: bs, q :: ps, j + 1, b, h, e => by simpa using Pgs.at h.2 (j := j) (by simpa using e)
  | [], _ :: _, _, _, h, _ => h.elim
  | _ :: _, [], _, _, h, _ => h.elim
theorem Pgs.of {H : Hp} : ∀ {bs : List Addr} {ps : List (List Int)} {b : Addr}, Pgs H bs ps → b ∈ bs → ∃ p, p ∈ ps ∧ H b = some (.lst (p.map V.int))
  | [], [], _, _, e => by simp at e
  | c :: bs, q :: ps, b, h, e => by
    rcases List.mem_cons.mp e with rfl | e
    · exact ⟨q, by simp, h.1⟩
    · obtain ⟨p, h1, h2⟩ := Pgs.of h.2 e
      exact ⟨p, by simp [h1], h2⟩
  | [], _ :: _, _, h, _ => h.elim
  | _ :: _, [], _, h, _ => h.elim
/-- a list of lists as data -/
def Ls (ps : List (List Int)) : D := .lst (ps.map fun p => .lst (p.map D.int))
theorem Ls_pures : ∀ ps : List (List Int), pures (ps.map fun p => D.lst (p.map D.int)) = true
  | [] => rfl
  | p :: r => by rw [List.map_cons, pures, Ls_pures r, D.pure, pures_ints]; rfl
theorem Ls_deps : ∀ ps : List (List Int), deps (ps.map fun p => D.lst (p.map D.int)) ≤ 1
  | [] => by rw [List.map_nil, deps]; decide
  | p :: r => by
    have := Ls_deps r
    rw [List.map_cons, deps, D.dep, deps_ints]
    omega
theorem Ls_pure (ps : List (List Int)) : (Ls ps).pure = true := by unfold Ls; rw [D.pure]; exact Ls_pures ps
theorem Ls_dep (ps : List (List Int)) : (Ls ps).dep ≤ 140 := by
  have := Ls_deps ps
  unfold Ls; rw [D.dep]; omega
theorem Pgs.reps {H : Hp} : ∀ {bs : List Addr} {ps : List (List Int)}, Pgs H bs ps → Reps H (bs.map V.ref) (ps.map fun p => D.lst (p.map D.int))
  | [], [], _ => .nil
  | b :: bs, p :: ps, h => .cons (rep_ints h.1) h.2.reps
  | [], _ :: _, h => h.elim
  | _ :: _, [], h => h.elim
theorem Pgs.rep {H : Hp} {a : Addr} {bs : List Addr} {ps : List (List Int)} (h : Pgs H bs ps) (e : H a = some (.lst (bs.map V.ref))) : Rep H (.ref a) (Ls ps) := .lst e h.reps
end L3

/-! ways, places, orders of trees -/
namespace L3
open PySem L2
/-- the keys on the way -/
def way (k : Int) : Tr → List Int
  | .nil => []
  | .node l x r => if x = k then [k] else x :: (if k < x then way k l else way k r)
/-- where the way ends -/
def at_ (k : Int) : Tr → Tr
  | .nil => .nil
  | .node l x r => if x = k then .node l x r else if k < x then at_ k l else at_ k r
theorem way_len (k : Int) : ∀ t : Tr, (way k t).length ≤ t.ht
  | .nil => Nat.le_refl _
  | .node l x r => by
    have h1 := way_len k l
    have h2 := way_len k r
    rw [way, Tr.ht]
    split
    · simp
    · rw [List.length_cons]
      split <;> omega
theorem ord_bd : ∀ (t : Tr) (lo hi : Option Int), t.ord lo hi → ∀ y ∈ t.keys, (∀ a, lo = some a → a < y) ∧ ∀ b, hi = some b → y < b
  | .nil, lo, hi, _, y, hy => by simp [Tr.keys] at hy
  | .node l x r, lo, hi, h, y, hy => by
    obtain ⟨h1, h2, h3, h4⟩ := h
    simp only [Tr.keys, List.mem_append, List.mem_singleton] at hy
    rcases hy with (hy | hy) | hy
    · obtain ⟨g1, g2⟩ := ord_bd l lo (some x) h3 y hy
      refine ⟨g1, fun b hb => ?_⟩
      have := g2 x rfl
      have := h2 b hb
      omega
    · subst hy; exact ⟨h1, h2⟩
    · obtain ⟨g1, g2⟩ := ord_bd r (some x) hi h4 y hy
      refine ⟨fun a ha => ?_, g2⟩
      have := g1 x rfl
      have := h1 a ha
      omega
theorem ord_l {l r : Tr} {x : Int} {lo hi : Option Int} (h : (Tr.node l x r).ord lo hi) {y : Int} (hy : y ∈ l.keys) : y < x := (ord_bd l lo (some x) h.2.2.1 y hy).2 x rfl
theorem ord_r {l r : Tr} {x : Int} {lo hi : Option Int} (h : (Tr.node l x r).ord lo hi) {y : Int} (hy : y ∈ r.keys) : x < y := (ord_bd r (some x) hi h.2.2.2 y hy).1 x rfl
theorem ord_rise : ∀ (t : Tr) (lo hi : Option Int), t.ord lo hi → t.keys.Pairwise (· < ·)
  | .nil, _, _, _ => by simp [Tr.keys]
  | .node l x r, lo, hi, h => by
    have g1 := ord_rise l _ _ h.2.2.1
    have g2 := ord_rise r _ _ h.2.2.2
    rw [Tr.keys, List.append_assoc, List.pairwise_append]
    refine ⟨g1, ?_, fun a ha b hb => ?_⟩
    · rw [List.singleton_append, List.pairwise_cons]
      exact ⟨fun b hb => ord_r h hb, g2⟩
    · have := ord_l h ha
      rw [List.singleton_append] at hb
      rcases List.mem_cons.mp hb with rfl | hb
      · exact this
      · have := ord_r h hb; omega
theorem way_sub (k : Int) : ∀ (t : Tr) (y : Int), y ∈ way k t → y ∈ t.keys
  | .nil, y, h => by simp [way] at h
  | .node l x r, y, h => by
    rw [way] at h
    rw [Tr.keys]
    split at h
    · rename_i hx
      simp at h
      subst h hx
      simp
    · rcases List.mem_cons.mp h with rfl | h
      · simp
      · split at h
        · have := way_sub k l y h; simp [this]
        · have := way_sub k r y h; simp [this]
theorem at_sub (k : Int) : ∀ (t : Tr) (y : Int), y ∈ (at_ k t).keys → y ∈ t.keys
  | .nil, y, h => h
  | .node l x r, y, h => by
    rw [at_] at h
    split at h
    · exact h
    · rw [Tr.keys]
      split at h
      · have := at_sub k l y h; simp [this]
      · have := at_sub k r y h; simp [this]
theorem at_ord (k : Int) : ∀ (t : Tr) (lo hi : Option Int), t.ord lo hi → ∃ lo' hi', (at_ k t).ord lo' hi'
  | .nil, lo, hi, h => ⟨lo, hi, h⟩
  | .node l x r, lo, hi, h => by
    rw [at_]
    split
    · exact ⟨lo, hi, h⟩
    · split
      · exact at_ord k l _ _ h.2.2.1
      · exact at_ord k r _ _ h.2.2.2
theorem at_node (k : Int) : ∀ (t : Tr) (lo hi : Option Int), t.ord lo hi → k ∈ t.keys → ∃ l r, at_ k t = .node l k r
  | .nil, _, _, _, h => by simp [Tr.keys] at h
  | .node l x r, lo, hi, h, hk => by
    rw [at_]
    split
    · rename_i hx; subst hx; exact ⟨l, r, rfl⟩
    · rename_i hx
      simp only [Tr.keys, List.mem_append, List.mem_singleton] at hk
      split
      · rename_i hlt
        refine at_node k l _ _ h.2.2.1 ?_
        rcases hk with (hk | hk) | hk
        · exact hk
        · exact absurd hk.symm hx
        · have := ord_r h hk; omega
      · rename_i hlt
        refine at_node k r _ _ h.2.2.2 ?_
        rcases hk with (hk | hk) | hk
        · have := ord_l h hk; omega
        · exact absurd hk.symm hx
        · exact hk
theorem on_way (k : Int) : ∀ (t : Tr) (lo hi : Option Int), t.ord lo hi → k ∈ t.keys → ∀ one ∈ t.keys, (k ∈ way one t ↔ one ∈ (at_ k t).keys)
  | .nil, _, _, _, h, _, _ => by simp [Tr.keys] at h
  | .node l x r, lo, hi, h, hk, one, ho => by
    rw [at_]
    by_cases hx : x = k
    · rw [if_pos hx]
      refine ⟨fun _ => ho, fun _ => ?_⟩
      rw [way]
      split
      · rename_i h1; simp [← h1, hx]
      · simp [hx]
    · rw [if_neg hx]
      simp only [Tr.keys, List.mem_append, List.mem_singleton] at hk ho
      have hkm : (k < x → k ∈ l.keys) ∧ (¬ k < x → k ∈ r.keys) := by
        constructor
        · intro hlt
          rcases hk with (hk | hk) | hk
          · exact hk
          · exact absurd hk.symm hx
          · have := ord_r h hk; omega
        · intro hlt
          rcases hk with (hk | hk) | hk
          · have := ord_l h hk; omega
          · exact absurd hk.symm hx
          · exact hk
      rw [way]
      by_cases h1 : x = one
      · rw [if_pos h1]
        subst h1
        constructor
        · intro z
          simp at z
          exact absurd z.symm hx
        · intro z
          split at z
          · have := ord_l h (at_sub k l _ z); omega
          · have := ord_r h (at_sub k r _ z); omega
      · rw [if_neg h1, List.mem_cons]
        by_cases hlt : k < x
        · rw [if_pos hlt]
          by_cases h2 : one < x
          · rw [if_pos h2]
            have hol : one ∈ l.keys := by
              rcases ho with (ho | ho) | ho
              · exact ho
              · exact absurd ho.symm h1
              · have := ord_r h ho; omega
            rw [← on_way k l _ _ h.2.2.1 (hkm.1 hlt) one hol]
            exact ⟨fun z => z.resolve_left (fun q => hx q.symm), .inr⟩
          · rw [if_neg h2]
            constructor
            · rintro (z | z)
              · exact absurd z.symm hx
              · have := ord_r h (way_sub one r _ z); omega
            · intro z
              have := ord_l h (at_sub k l _ z); omega
        · rw [if_neg hlt]
          by_cases h2 : one < x
          · rw [if_pos h2]
            constructor
            · rintro (z | z)
              · exact absurd z.symm hx
              · have := ord_l h (way_sub one l _ z); omega
            · intro z
              have := ord_r h (at_sub k r _ z); omega
          · rw [if_neg h2]
            have hor : one ∈ r.keys := by
              rcases ho with (ho | ho) | ho
              · have := ord_l h ho; omega
              · exact absurd ho.symm h1
              · exact ho
            rw [← on_way k r _ _ h.2.2.2 (hkm.2 hlt) one hor]
            exact ⟨fun z => z.resolve_left (fun q => hx q.symm), .inr⟩
theorem way_deep : ∀ (t : Tr) (lo hi : Option Int), t.ord lo hi → t ≠ .nil → ∃ k ∈ t.keys, (way k t).length = t.ht
  | .nil, _, _, _, h => absurd rfl h
  | .node l x r, lo, hi, h, _ => by
    by_cases hlr : r.ht ≤ l.ht
    · cases hl : l with
      | nil =>
        subst hl
        refine ⟨x, by simp [Tr.keys], ?_⟩
        have : r.ht = 0 := by simp only [Tr.ht] at hlr; omega
        rw [way, if_pos rfl, Tr.ht, this]; rfl
      | node l1 x1 r1 =>
        obtain ⟨k, hk, hl1⟩ := way_deep l _ _ h.2.2.1 (by rw [hl]; intro z; cases z)
        have hkx := ord_l h hk
        refine ⟨k, by rw [← hl]; simp [Tr.keys, hk], ?_⟩
        rw [← hl, way, if_neg (by omega), if_pos hkx, List.length_cons, hl1, Tr.ht]; omega
    · cases hr : r with
      | nil => subst hr; simp [Tr.ht] at hlr
      | node l1 x1 r1 =>
        obtain ⟨k, hk, hl1⟩ := way_deep r _ _ h.2.2.2 (by rw [hr]; intro z; cases z)
        have hkx := ord_r h hk
        refine ⟨k, by rw [← hr]; simp [Tr.keys, hk], ?_⟩
        rw [← hr, way, if_neg (by omega), if_neg (by omega), List.length_cons, hl1, Tr.ht]; omega
theorem rise_ext : ∀ (xs ys : List Int), xs.Pairwise (· < ·) → ys.Pairwise (· < ·) → (∀ a, a ∈ xs ↔ a ∈ ys) → xs = ys
  | [], [], _, _, _ => rfl
  | [], y :: ys, _, _, h => by have := (h y).mpr (by simp); simp at this
  | x :: xs, [], _, _, h => by have := (h x).mp (by simp); simp at this
  | x :: xs, y :: ys, hx, hy, h => by
    rw [List.pairwise_cons] at hx hy
    have e : x = y := by
      rcases List.mem_cons.mp ((h x).mp (by simp)) with e | e
      · exact e
      · rcases List.mem_cons.mp ((h y).mpr (by simp)) with e' | e'
        · exact e'.symm
        · have := hx.1 y e'
          have := hy.1 x e
          omega
    subst e
    congr 1
    refine rise_ext xs ys hx.2 hy.2 fun a => ?_
    have ha := h a
    simp only [List.mem_cons] at ha
    constructor
    · intro z
      rcases ha.mp (.inr z) with e | e
      · have := hx.1 a z; omega
      · exact e
    · intro z
      rcases ha.mpr (.inr z) with e | e
      · have := hy.1 a z; omega
      · exact e
theorem at_size (k : Int) : ∀ t : Tr, (at_ k t).size ≤ t.size ∧ (at_ k t).ht ≤ t.ht
  | .nil => ⟨Nat.le_refl _, Nat.le_refl _⟩
  | .node l x r => by
    have h1 := at_size k l
    have h2 := at_size k r
    rw [at_]
    split
    · exact ⟨Nat.le_refl _, Nat.le_refl _⟩
    · rw [Tr.size, Tr.ht]
      split <;> omega
theorem atI_neg2 {α : Type} {xs : List α} {v : α} (h1 : 1 < xs.length) (h : xs[xs.length - 2]? = some v) : atI xs (-2) = some v := by
  unfold atI ixN
  rw [if_neg (by decide), if_pos (by omega)]
  show xs[_]? = some v
  rw [← h]
  congr 1
  omega
theorem dep_pure : ∀ t : Tr, t.d.pure = true
  | .nil => rfl
  | .node l x r => by
    show (D.tup [l.d, .int x, r.d]).pure = true
    rw [D.pure, pures, dep_pure l, pures, pures, dep_pure r, pures]; rfl
theorem rep_off {H : Hp} {p : Addr} (hp : ∀ vs, H p ≠ some (.tup vs)) : ∀ (t : Tr) {v : V}, Rep H v t.d → Rep (rm p H) v t.d
  | .nil, v, h => by cases rep_nil h; exact .non
  | .node l k r, v, h => by
    obtain ⟨a, vl, vr, rfl, ea, hl, hr⟩ := rep_node h
    exact rep_mk (by rw [rm_ne (fun z => by rw [z] at ea; exact hp _ ea)]; exact ea) (rep_off hp l hl) (rep_off hp r hr)
end L3

/-! joins within a block; dicts of ups -/
namespace L3
open PySem L2
theorem join {G : Prop} {N : L2.St → Hp → Prop} (M : L2.St → Hp → Prop) (h2 : (∀ σ H, M σ H → N σ H) → G) (h1 : ∀ σ H, M σ H → N σ H) : G := h2 h1
theorem valV_none' : ∀ {kvs : List (Key × V)} {k : Key}, k ∉ kvs.map (·.1) → valV kvs k = none
  | [], _, _ => rfl
  | (k', x) :: r, k, h => by
    simp only [List.map_cons, List.mem_cons, not_or] at h
    rw [valV_neg (fun z => h.1 z.symm)]
    exact valV_none' h.2
theorem valV_some' : ∀ {kvs : List (Key × V)} {k : Key} {x : V}, (kvs.map (·.1)).Nodup → (k, x) ∈ kvs → valV kvs k = some x
  | [], _, _, _, h => by simp at h
  | (k', x') :: r, k, x, hn, h => by
    rw [List.map_cons, List.nodup_cons] at hn
    rcases List.mem_cons.mp h with e | h
    · cases e; exact valV_pos rfl
    · have hne : ¬ k' = k := fun z => hn.1 (by rw [z]; exact List.mem_map.mpr ⟨_, h, rfl⟩)
      rw [valV_neg hne]
      exact valV_some' hn.2 h
theorem merge_app : ∀ (more kvs : List (Key × V)), ((kvs ++ more).map (·.1)).Nodup → mergeK kvs more = kvs ++ more
  | [], kvs, _ => by simp [mergeK]
  | (k, x) :: r, kvs, h => by
    have hk : k ∉ kvs.map (·.1) := by
      rw [List.map_append, List.nodup_append] at h
      intro hm
      exact h.2.2 k hm k (by simp) rfl
    have h' : ((kvs ++ [(k, x)] ++ r).map (·.1)).Nodup := by simpa using h
    show mergeK (putK kvs k x) r = _
    rw [putK_new _ (valV_none' hk), merge_app r _ h']
    simp
theorem rd_mono {H H' : Hp} {d : Addr} {u : HO} (h : Rd H d u) (s : Same H H') : Rd H' d u := by
  rcases h with h | ⟨o, h⟩
  · exact .inl (s _ _ h)
  · exact .inr ⟨o, s _ _ h⟩
/-- what stands one ahead of the last -/
def upW (w : List Int) : Option Int := if 1 < w.length then w[w.length - 2]? else none
/-- each key with its up, from the top on -/
def upsL : Tr → Option Int → List (Key × V)
  | .nil, _ => []
  | .node l x r, u => ((Sum.inl x : Key), vO u) :: (upsL l (some x) ++ upsL r (some x))
theorem upsL_perm : ∀ (t : Tr) (u : Option Int), ((upsL t u).map (·.1)).Perm (t.keys.map (fun y => (Sum.inl y : Key)))
  | .nil, _ => List.Perm.refl _
  | .node l x r, u => by
    have h1 := upsL_perm l (some x)
    have h2 := upsL_perm r (some x)
    rw [upsL, Tr.keys, List.map_cons, List.map_append, List.map_append, List.map_append, List.append_assoc]
    refine List.Perm.trans ((h1.append h2).cons _) ?_
    exact List.perm_middle.symm
theorem upsL_nodup {t : Tr} (h : t.keys.Nodup) (u : Option Int) : ((upsL t u).map (·.1)).Nodup := by
  refine (upsL_perm t u).nodup_iff.mpr ?_
  rw [List.Nodup, List.pairwise_map]
  exact h.imp (fun h z => h (Sum.inl.inj z))
def upK (k : Int) : Tr → Option Int → Option Int
  | .nil, u => u
  | .node l x r, u => if x = k then u else if k < x then upK k l (some x) else upK k r (some x)
theorem key_side {l r : Tr} {x k : Int} {lo hi : Option Int} (h : (Tr.node l x r).ord lo hi) (hk : k ∈ (Tr.node l x r).keys) (hx : ¬ x = k) : (k < x → k ∈ l.keys) ∧ (¬ k < x → k ∈ r.keys) := by
  simp only [Tr.keys, List.mem_append, List.mem_singleton] at hk
  constructor
  · intro hlt
    rcases hk with (hk | hk) | hk
    · exact hk
    · exact absurd hk.symm hx
    · have := ord_r h hk; omega
  · intro hlt
    rcases hk with (hk | hk) | hk
    · have := ord_l h hk; omega
    · exact absurd hk.symm hx
    · exact hk
theorem upsL_mem (k : Int) : ∀ (t : Tr) (u : Option Int) (lo hi : Option Int), t.ord lo hi → k ∈ t.keys → ((Sum.inl k : Key), vO (upK k t u)) ∈ upsL t u
  | .nil, _, _, _, _, h => by simp [Tr.keys] at h
  | .node l x r, u, lo, hi, h, hk => by
    rw [upK, upsL]
    by_cases hx : x = k
    · rw [if_pos hx, hx]; simp
    · rw [if_neg hx]
      obtain ⟨g1, g2⟩ := key_side h hk hx
      by_cases hlt : k < x
      · rw [if_pos hlt]
        exact List.mem_cons_of_mem _ (List.mem_append_left _ (upsL_mem k l _ _ _ h.2.2.1 (g1 hlt)))
      · rw [if_neg hlt]
        exact List.mem_cons_of_mem _ (List.mem_append_right _ (upsL_mem k r _ _ _ h.2.2.2 (g2 hlt)))
theorem upK_way (k : Int) : ∀ (t : Tr) (u : Option Int) (lo hi : Option Int), t.ord lo hi → k ∈ t.keys → upK k t u = if 1 < (way k t).length then (way k t)[(way k t).length - 2]? else u
  | .nil, _, _, _, _, h => by simp [Tr.keys] at h
  | .node l x r, u, lo, hi, h, hk => by
    rw [upK, way]
    by_cases hx : x = k
    · rw [if_pos hx, if_pos hx]; simp
    · rw [if_neg hx, if_neg hx]
      obtain ⟨g1, g2⟩ := key_side h hk hx
      have step : ∀ (s : Tr), upK k s (some x) = (if 1 < (way k s).length then (way k s)[(way k s).length - 2]? else some x) → 0 < (way k s).length → upK k s (some x) = if 1 < (x :: way k s).length then (x :: way k s)[(x :: way k s).length - 2]? else u := by
        intro s e hp
        have hp2 : 1 < (way k s).length + 1 := by omega
        rw [List.length_cons, if_pos hp2, e]
        by_cases h1 : 1 < (way k s).length
        · rw [if_pos h1]
          have e1 : (way k s).length + 1 - 2 = ((way k s).length - 2) + 1 := by omega
          rw [e1, List.getElem?_cons_succ]
        · rw [if_neg h1]
          have e1 : (way k s).length + 1 - 2 = 0 := by omega
          rw [e1]; rfl
      have pos : ∀ (s : Tr) (a b : Option Int), s.ord a b → k ∈ s.keys → 0 < (way k s).length := fun s a b ho hm => by
        cases s with
        | nil => simp [Tr.keys] at hm
        | node l' x' r' => rw [way]; split <;> simp
      by_cases hlt : k < x
      · rw [if_pos hlt, if_pos hlt]
        exact step l (upK_way k l _ _ _ h.2.2.1 (g1 hlt)) (pos l _ _ h.2.2.1 (g1 hlt))
      · rw [if_neg hlt, if_neg hlt]
        exact step r (upK_way k r _ _ _ h.2.2.2 (g2 hlt)) (pos r _ _ h.2.2.2 (g2 hlt))
theorem upsL_val {t : Tr} {k : Int} (h : t.ord none none) (hk : k ∈ t.keys) : valV (upsL t none) (Sum.inl k : Key) = some (vO (upW (way k t))) := by
  have hn : t.keys.Nodup := (ord_rise t _ _ h).imp (fun h => by omega)
  have h1 := valV_some' (upsL_nodup hn none) (upsL_mem k t none _ _ h hk)
  rw [h1, upK_way k t none _ _ h hk]; rfl
/-- an up stands higher -/
theorem up_higher (k u : Int) : ∀ (t : Tr) (lo hi : Option Int), t.ord lo hi → k ∈ t.keys → upW (way k t) = some u → u ∈ t.keys ∧ (way u t).length < (way k t).length
  | .nil, _, _, _, h, _ => by simp [Tr.keys] at h
  | .node l x r, lo, hi, h, hk, hu => by
    have hk' : k ∈ (Tr.node l x r).keys := hk
    unfold upW at hu
    have ew : way k (Tr.node l x r) = if x = k then [k] else x :: (if k < x then way k l else way k r) := by rw [way]
    rw [ew] at hu ⊢
    by_cases hx : x = k
    · rw [if_pos hx] at hu; simp at hu
    · rw [if_neg hx] at hu ⊢
      obtain ⟨g1, g2⟩ := key_side h hk' hx
      have step : ∀ (s : Tr) (a b : Option Int), s.ord a b → k ∈ s.keys → (∀ y ∈ s.keys, y ∈ (Tr.node l x r).keys ∧ (way y (Tr.node l x r)).length = (way y s).length + 1) → (if 1 < (x :: way k s).length then (x :: way k s)[(x :: way k s).length - 2]? else none) = some u → (upW (way k s) = some u → u ∈ s.keys ∧ (way u s).length < (way k s).length) → u ∈ (Tr.node l x r).keys ∧ (way u (Tr.node l x r)).length < (x :: way k s).length := by
        intro s a b ho hm hsub he ih
        have hp : 0 < (way k s).length := by
          cases s with
          | nil => simp [Tr.keys] at hm
          | node l' x' r' => rw [way]; split <;> simp
        rw [List.length_cons, if_pos (by omega)] at he
        by_cases h1 : 1 < (way k s).length
        · have e1 : (way k s).length + 1 - 2 = ((way k s).length - 2) + 1 := by omega
          rw [e1, List.getElem?_cons_succ] at he
          obtain ⟨i1, i2⟩ := ih (by unfold upW; rw [if_pos h1]; exact he)
          obtain ⟨j1, j2⟩ := hsub u i1
          exact ⟨j1, by rw [j2, List.length_cons]; omega⟩
        · have e1 : (way k s).length + 1 - 2 = 0 := by omega
          rw [e1] at he
          have : x = u := by simpa using he
          subst this
          refine ⟨by simp [Tr.keys], ?_⟩
          rw [way, if_pos rfl, List.length_cons]; simp; omega
      by_cases hlt : k < x
      · rw [if_pos hlt] at hu ⊢
        refine step l _ _ h.2.2.1 (g1 hlt) (fun y hy => ⟨by simp [Tr.keys, hy], ?_⟩) hu (up_higher k u l _ _ h.2.2.1 (g1 hlt))
        have := ord_l h hy
        rw [way, if_neg (by omega), if_pos this, List.length_cons]
      · rw [if_neg hlt] at hu ⊢
        refine step r _ _ h.2.2.2 (g2 hlt) (fun y hy => ⟨by simp [Tr.keys, hy], ?_⟩) hu (up_higher k u r _ _ h.2.2.2 (g2 hlt))
        have := ord_r h hy
        rw [way, if_neg (by omega), if_neg (by omega), List.length_cons]
/-- some key of a page has its up elsewhere -/
theorem head_is {t : Tr} (h : t.ord none none) : ∀ (ps : List Int), ps ≠ [] → (∀ k ∈ ps, k ∈ t.keys) → ∃ k ∈ ps, ∀ u, upW (way k t) = some u → u ∉ ps := by
  intro ps hne hk
  have least : ∀ (n : Nat) (qs : List Int), qs.length ≤ n → qs ≠ [] → ∃ k ∈ qs, ∀ j ∈ qs, (way k t).length ≤ (way j t).length := by
    intro n
    induction n with
    | zero => intro qs hl hq; exact absurd (List.length_eq_zero_iff.mp (by omega)) hq
    | succ n ih =>
      intro qs hl hq
      cases qs with
      | nil => exact absurd rfl hq
      | cons q qs =>
        by_cases hqs : qs = []
        · subst hqs; exact ⟨q, by simp, by simp⟩
        · obtain ⟨k, hk, hm⟩ := ih qs (by simpa using hl) hqs
          by_cases hle : (way q t).length ≤ (way k t).length
          · refine ⟨q, by simp, fun j hj => ?_⟩
            rcases List.mem_cons.mp hj with rfl | hj
            · exact Nat.le_refl _
            · exact Nat.le_trans hle (hm j hj)
          · refine ⟨k, by simp [hk], fun j hj => ?_⟩
            rcases List.mem_cons.mp hj with rfl | hj
            · omega
            · exact hm j hj
  obtain ⟨k, hkm, hmin⟩ := least ps.length ps (Nat.le_refl _) hne
  refine ⟨k, hkm, fun u hu hup => ?_⟩
  have h1 := (up_higher k u t _ _ h (hk k hkm) hu).2
  have h2 := hmin u hup
  omega
end L3

/-! pages drawn -/
namespace L3
open PySem L2
def unI : V → Int
  | .int i => i
  | _ => 0
def unR : V → Addr
  | .ref a => a
  | _ => 0
theorem perm_ints {ys : List V} {q : List Int} (h : ys.Perm (q.map V.int)) : ∃ q' : List Int, ys = q'.map V.int ∧ q'.Perm q := by
  refine ⟨ys.map unI, ?_, ?_⟩
  · rw [List.map_map]
    have : ∀ y ∈ ys, (V.int ∘ unI) y = y := fun y hy => by
      obtain ⟨i, _, rfl⟩ := List.mem_map.mp (h.mem_iff.mp hy)
      rfl
    conv => lhs; rw [← List.map_id ys]
    exact List.map_congr_left fun y hy => (this y hy).symm
  · have := h.map unI
    rw [List.map_map] at this
    have e : q.map (unI ∘ V.int) = q := (List.map_congr_left (fun _ _ => rfl)).trans (List.map_id q)
    rw [e] at this
    exact this
theorem perm_refs {ys : List V} {q : List Addr} (h : ys.Perm (q.map V.ref)) : ∃ q' : List Addr, ys = q'.map V.ref ∧ q'.Perm q := by
  refine ⟨ys.map unR, ?_, ?_⟩
  · rw [List.map_map]
    have : ∀ y ∈ ys, (V.ref ∘ unR) y = y := fun y hy => by
      obtain ⟨i, _, rfl⟩ := List.mem_map.mp (h.mem_iff.mp hy)
      rfl
    conv => lhs; rw [← List.map_id ys]
    exact List.map_congr_left fun y hy => (this y hy).symm
  · have := h.map unR
    rw [List.map_map] at this
    have e : q.map (unR ∘ V.ref) = q := (List.map_congr_left (fun _ _ => rfl)).trans (List.map_id q)
    rw [e] at this
    exact this
theorem Pgs.perm {H : Hp} {cs' cs : List Addr} (h : cs'.Perm cs) : ∀ {qs : List (List Int)}, Pgs H cs qs → ∃ qs' : List (List Int), Pgs H cs' qs' ∧ qs'.Perm qs := by
  induction h with
  | nil => intro qs h; cases qs with
    | nil => exact ⟨[], trivial, List.Perm.refl _⟩
    | cons q qs => exact h.elim
  | cons x _ ih =>
    intro qs h
    cases qs with
    | nil => exact h.elim
    | cons q qs =>
      obtain ⟨qs', g1, g2⟩ := ih h.2
      exact ⟨q :: qs', ⟨h.1, g1⟩, g2.cons q⟩
  | swap x y l =>
    intro qs h
    cases qs with
    | nil => exact h.elim
    | cons q qs =>
      cases qs with
      | nil => exact h.2.elim
      | cons q2 qs => exact ⟨q2 :: q :: qs, ⟨h.2.1, h.1, h.2.2⟩, List.Perm.swap q q2 qs⟩
  | trans _ _ ih1 ih2 =>
    intro qs h
    obtain ⟨q2, g1, g2⟩ := ih2 h
    obtain ⟨q1, g3, g4⟩ := ih1 g1
    exact ⟨q1, g3, g4.trans g2⟩
theorem Pgs.set {H : Hp} {y : Int} : ∀ {bs : List Addr} {ps : List (List Int)} {j : Nat} {b : Addr} {q : List Int}, Pgs H bs ps → bs.Nodup → bs[j]? = some b → ps[j]? = some q → Pgs (upd H b (.lst (q.map V.int ++ [.int y]))) bs (ps.set j (q ++ [y]))
  | [], [], _, _, _, _, _, e, _ => by simp at e
  | c :: bs, p :: ps, 0, b, q, h, hn, e, e2 => by
    simp at e e2
    subst e e2
    rw [List.nodup_cons] at hn
    refine ⟨by rw [upd_same, List.map_append]; rfl, h.2.stay fun d hd => upd_ne (fun z => hn.1 (z ▸ hd))⟩
  | c :: bs, p :: ps, j + 1, b, q, h, hn, e, e2 => by
    rw [List.nodup_cons] at hn
    have e' : bs[j]? = some b := by simpa using e
    have hcb : c ≠ b := fun z => hn.1 (z ▸ List.mem_of_getElem? e')
    exact ⟨by rw [upd_ne hcb]; exact h.1, Pgs.set h.2 hn.2 e' (by simpa using e2)⟩
  | [], _ :: _, _, _, _, h, _, _, _ => h.elim
  | _ :: _, [], _, _, _, h, _, _, _ => h.elim
theorem flat_set {y : Int} : ∀ {ps : List (List Int)} {j : Nat} {q : List Int}, ps[j]? = some q → (ps.set j (q ++ [y])).flatten.Perm (ps.flatten ++ [y])
  | [], _, _, e => by simp at e
  | p :: ps, 0, q, e => by
    simp at e
    subst e
    rw [List.set_cons_zero, List.flatten_cons, List.flatten_cons, List.append_assoc, List.append_assoc]
    exact List.Perm.append_left _ List.perm_append_comm
  | p :: ps, j + 1, q, e => by
    rw [List.set_cons_succ, List.flatten_cons, List.flatten_cons, List.append_assoc]
    exact List.Perm.append_left _ (flat_set (ps := ps) (j := j) (by simpa using e))
theorem mem_set {ps : List (List Int)} {j : Nat} {q' : List Int} {z : List Int} (h : z ∈ ps.set j q') : z = q' ∨ z ∈ ps := by
  rcases List.mem_or_eq_of_mem_set h with h | h
  · exact .inr h
  · exact .inl h
theorem flat_len : ∀ {ps : List (List Int)} {q : List Int}, q ∈ ps → q.length ≤ ps.flatten.length
  | p :: ps, q, h => by
    rw [List.flatten_cons, List.length_append]
    rcases List.mem_cons.mp h with rfl | h
    · omega
    · have := flat_len (ps := ps) h; omega
theorem atI_refs {bs : List Addr} {j : Nat} {b : Addr} (h : bs[j]? = some b) : atI (bs.map V.ref) (j : Int) = some (.ref b) := atI_nat (by rw [List.getElem?_map, h]; rfl)
end L3

namespace K47
open PySem L2 L3
def top (i : Nat) : Stmt := PySem.Challenge.pw_leafpages_k47_layouts_written.main.body.getD i (.Pass ⟨0, 0, 0, 0⟩)
abbrev s_show_keys : Stmt := top 8
theorem sc_show_keys : FnScope ["keys"] ["keys"] (defScope s_show_keys) := ⟨rfl, rfl, rfl, by decide +kernel, rfl, by decide +kernel, by decide +kernel⟩
abbrev s_show_layout : Stmt := top 9
theorem sc_show_layout : FnScope ["layout"] ["layout"] (defScope s_show_layout) := ⟨rfl, rfl, rfl, by decide +kernel, rfl, by decide +kernel, by decide +kernel⟩
abbrev s_has_figures_alone : Stmt := top 10
theorem sc_has_figures_alone : FnScope ["word"] ["word"] (defScope s_has_figures_alone) := ⟨rfl, rfl, rfl, by decide +kernel, rfl, by decide +kernel, by decide +kernel⟩
abbrev s_read_number : Stmt := top 11
theorem sc_read_number : FnScope ["word", "figures"] ["word"] (defScope s_read_number) := ⟨rfl, rfl, rfl, by decide +kernel, rfl, by decide +kernel, by decide +kernel⟩
abbrev s_read_page : Stmt := top 12
theorem sc_read_page : FnScope ["text"] ["text"] (defScope s_read_page) := ⟨rfl, rfl, rfl, by decide +kernel, rfl, by decide +kernel, by decide +kernel⟩
abbrev s_read_layout : Stmt := top 13
theorem sc_read_layout : FnScope ["text", "layout"] ["text"] (defScope s_read_layout) := ⟨rfl, rfl, rfl, by decide +kernel, rfl, by decide +kernel, by decide +kernel⟩
abbrev s_law_pen : Stmt := top 15
theorem sc_law_pen : FnScope ["_law_script", "_law_k", "_law_cell"] ["_law_script", "_law_k"] (defScope s_law_pen) := ⟨rfl, rfl, rfl, by decide +kernel, rfl, by decide +kernel, by decide +kernel⟩
abbrev s_law_draw : Stmt := top 16
theorem sc_law_draw : FnScope ["_law_pen_here", "_law_many", "_law_drawn", "_law_number"] ["_law_pen_here", "_law_many"] (defScope s_law_draw) := ⟨rfl, rfl, rfl, by decide +kernel, rfl, by decide +kernel, by decide +kernel⟩
abbrev s_law_key : Stmt := top 17
theorem sc_law_key : FnScope ["_law_pen_here", "_law_kind", "_law_sign"] ["_law_pen_here"] (defScope s_law_key) := ⟨rfl, rfl, rfl, by decide +kernel, rfl, by decide +kernel, by decide +kernel⟩
abbrev s_law_layout : Stmt := top 18
theorem sc_law_layout : FnScope ["_law_pen_here", "_law_left", "_law_layout_here", "_law_k", "_law_size"] ["_law_pen_here"] (defScope s_law_layout) := ⟨rfl, rfl, rfl, by decide +kernel, rfl, by decide +kernel, by decide +kernel⟩
abbrev s_law_text : Stmt := top 19
theorem sc_law_text : FnScope ["_law_layout_here", "_law_text_here", "_law_number", "_law_page", "_law_place", "_law_key_here"] ["_law_layout_here"] (defScope s_law_text) := ⟨rfl, rfl, rfl, by decide +kernel, rfl, by decide +kernel, by decide +kernel⟩
abbrev s_law : Stmt := top 20
theorem sc_law : FnScope ["_law_script", "_law_k", "_law_layout_here", "_law_due", "_law_handed", "_law_told", "_law_page"] ["_law_script"] (defScope s_law) := ⟨rfl, rfl, rfl, by decide +kernel, rfl, by decide +kernel, by decide +kernel⟩
structure Tx (K : PySem.W.Frag) (mg : Str → Option Value) : Prop where
  b_all : mg "all" = none
  b_enumerate : mg "enumerate" = none
  b_int : mg "int" = none
  b_isinstance : mg "isinstance" = none
  b_len : mg "len" = none
  b_list : mg "list" = none
  b_min : mg "min" = none
  b_range : mg "range" = none
  b_str : mg "str" = none
  b_sum : mg "sum" = none
  g_FIGURES : ∃ tk, mg "FIGURES" = some (.str "0123456789" tk)
  g_MOST_FIGURES : ∃ tk, mg "MOST_FIGURES" = some (.int 60 tk)
  g_MOST_KEYS : ∃ tk, mg "MOST_KEYS" = some (.int 60 tk)
  g_MOST_PAGES : ∃ tk, mg "MOST_PAGES" = some (.int 60 tk)
def spPen (K : PySem.W.Frag) : Sp := fun vs H Q _ => ∃ (a : Addr) (k : Int) (ns : List Int), vs = [.ref a, .int k] ∧ SqL K H a (ns.map V.int) ∧ ns.length ≤ 63 ∧ 0 ≤ k ∧ k ≤ 63 ∧ ∀ p H', H p = none → Same H H' → Pen3 H' p → Q (.ref p) H'
def spDraw : Sp := fun vs H Q _ => ∃ (p : Addr) (c : Int), vs = [.ref p, .int c] ∧ Pen3 H p ∧ 0 < c ∧ c < 10 ^ 100 ∧ ∀ r H', 0 ≤ r → r < c → Pen3 H' p → Same (rm p H) H' → Q (.int r) H'
section
variable {P : Program} {w : World} {K : PySem.W.Frag} {mg : Str → Option Value} {base : Heap}
theorem ok_draw {f : Addr} (F : Fd K mg "_law_draw" s_law_draw f) (T : Tx K mg) : Cal P w K mg base CX0 1 "_law_draw" spDraw := by
  refine F.cal sc_law_draw (fun _ _ _ _ _ _ us hl => match us, hl with | [_, _], _ => rfl) (fun vs H Q E h => ?_) (fun cdv A outer s H vs Q E hr h => ?_)
  · obtain ⟨p, c, rfl, _⟩ := h; rfl
  · obtain ⟨p, c, rfl, ⟨m, n, d, hp⟩, hc, hc2, k⟩ := h
    have hcB : CDivB m c := ⟨hc, Int.lt_trans hc2 (by decide +kernel)⟩
    refine ⟨_, (bcons (sasg (qop rAdd (qix (xIx K) (qv 0) qint (fun _ _ => rfl)) qint) (gsub (qv 0) qint xSet))
      (bcons (sif (tcmp rGt (qix (xIx K) (qv 0) qint (fun _ _ => rfl)) qint (nomark _)) (bcons (sset (i := 2) sc_law_draw.nd rfl (by first | exact Or.inl rfl | exact Or.inr rfl) (qop rMod (qix (xIx K) (qv 0) qint (fun _ _ => rfl)) (qv 1)))
        (bcons (sasg (qop rDivB (qix (xIx K) (qv 0) qint (fun _ _ => rfl)) (qv 1)) (gsub (qv 0) qint xSet))
        (bone (sret (qv 2))))) bnil)
      (bcons (sset (i := 3) sc_law_draw.nd rfl (by first | exact Or.inl rfl | exact Or.inr rfl) (qop rMod (qop rMul (qop rAdd (qop rAdd (qix (xIx K) (qv 0) qint (fun _ _ => rfl)) (qop rMul qint (qix (xIx K) (qv 0) qint (fun _ _ => rfl)))) qint) qint) qint))
      (bcons (sset (i := 3) sc_law_draw.nd rfl (by first | exact Or.inl rfl | exact Or.inr rfl) (qop rMod (qop rMul (qv 3) (qop rAdd (qop rAdd (qop rMod (qv 3) qint) (qix (xIx K) (qv 0) qint (fun _ _ => rfl))) qint)) qint))
      (bone (sret (qop rMod (qop rDivB (qop rMod (qop rMul (qv 3) (qop rAdd (qop rMod (qv 3) qint) qint)) qint) qint) (qv 1)))))))), ?_⟩
    refine ⟨_, rfl, p, _, 2, _, rfl, rfl, .inl (SqL.of hp), atI_nat (j := 2) rfl, _, rfl, p, _, 2, 2, rfl, rfl, hp, rfl, ?_⟩
    refine ⟨_, rfl, p, _, 0, _, rfl, rfl, .inl (SqL.of upd_same), atI_nat (j := 0) rfl, _, _, rfl, rfl, _, rfl, ?_⟩
    refine ite2 (fun _ => ?_) (fun _ => ?_)
    · refine ⟨_, rfl, p, _, 0, _, rfl, rfl, .inl (SqL.of upd_same), atI_nat (j := 0) rfl, _, rfl, _, _, rfl, rfl, hc, ?_⟩
      refine ⟨_, rfl, p, _, 0, _, rfl, rfl, .inl (SqL.of upd_same), atI_nat (j := 0) rfl, _, rfl, _, _, rfl, rfl, hcB, _, rfl, p, _, 0, 0, rfl, rfl, upd_same, rfl, ?_⟩
      refine ⟨_, rfl, ?_⟩
      exact k (m % c) _ (Int.emod_nonneg _ (by omega)) (Int.emod_lt_of_pos _ hc) ⟨_, _, _, upd_same⟩ (same_upd (same_upd rm_same rm_self) rm_self)
    · refine ⟨_, rfl, p, _, 1, _, rfl, rfl, .inl (SqL.of upd_same), atI_nat (j := 1) rfl, _, rfl, p, _, 2, _, rfl, rfl, .inl (SqL.of upd_same), atI_nat (j := 2) rfl, _, _, rfl, rfl, cmL (by decide), _, _, rfl, rfl, cmR (by decide), _, _, rfl, rfl, (show (0 : Int) < _ by decide), ?_⟩
      have hb : ∀ x q : Int, 0 < q → q < 2147483650 → -(2 ^ 64) < x % q ∧ x % q < 2 ^ 64 := fun x q h1 h2 => by
        have := Int.emod_nonneg x (b := q) (by omega)
        have := Int.emod_lt_of_pos x h1
        omega
      refine ⟨_, rfl, _, rfl, _, _, rfl, rfl, (show (0 : Int) < _ by decide), _, rfl, p, _, 2, _, rfl, rfl, .inl (SqL.of upd_same), atI_nat (j := 2) rfl, _, _, rfl, rfl, cmL (hb _ _ (by decide) (by decide)), _, _, rfl, rfl, (show (0 : Int) < _ by decide), ?_⟩
      refine ⟨_, rfl, _, rfl, _, _, rfl, rfl, (show (0 : Int) < _ by decide), _, _, rfl, rfl, cmL (hb _ _ (by decide) (by decide)), _, _, rfl, rfl, (show (0 : Int) < _ by decide), _, _, rfl, rfl, ⟨by decide, by decide +kernel⟩, _, rfl, _, _, rfl, rfl, hc, ?_⟩
      exact k _ _ (Int.emod_nonneg _ (by omega)) (Int.emod_lt_of_pos _ hc) ⟨_, _, _, upd_same⟩ (same_upd rm_same rm_self)
theorem ok_pen {f : Addr} (F : Fd K mg "_law_pen" s_law_pen f) (T : Tx K mg) : Cal P w K mg base CX0 1 "_law_pen" (spPen K) := by
  refine F.cal sc_law_pen (fun _ _ _ _ _ _ us hl => match us, hl with | [_, _], _ => rfl) (fun vs H Q E h => ?_) (fun cdv A outer s H vs Q E hr h => ?_)
  · obtain ⟨a, k, ns, rfl, _⟩ := h; rfl
  · obtain ⟨a, k, ns, rfl, ha, hl, h0, h1, q⟩ := h
    refine split 2 (fun σ' H' => H' = H ∧ ∃ cell, σ' = [some (.ref a), some (.int k), some (.int cell)]) ?h2 ?h1
    case h2 =>
      refine ⟨_, (bcons (sif (tcmp rGe (qv 2) (qop rPow qint qint) (nomark _)) (bone (sret (qlst (qcons (qop rSub (qv 2) (qop rPow qint qint)) (qcons (qop rMod (qv 2) qint) (qcons qint qnil)))))) bnil)
      (bone (sret (qlst (qcons qint (qcons (qop rAdd (qop rMod (qv 2) qint) (qop rMul qint (qv 1))) (qcons qint qnil))))))), ?_⟩
      rintro σ' H' ⟨rfl, cell, rfl⟩
      refine ⟨_, rfl, _, _, rfl, rfl, ⟨by decide, by decide, by decide⟩, _, _, rfl, rfl, _, rfl, ?_⟩
      refine ite2 (fun _ => ?_) (fun _ => ?_)
      · exact ⟨_, rfl, _, _, rfl, rfl, ⟨by decide, by decide, by decide⟩, _, _, rfl, rfl, _, rfl, _, _, rfl, rfl, (show (0 : Int) < _ by decide), (show 3 ≤ sizeLine by decide), fun p H' hn s1 e1 _ => q p H' hn s1 ⟨_, _, _, e1⟩⟩
      · exact ⟨_, rfl, _, _, rfl, rfl, (show (0 : Int) < _ by decide), _, rfl, _, _, rfl, rfl, cmL (by decide), (show 3 ≤ sizeLine by decide), fun p H' hn s1 e1 _ => q p H' hn s1 ⟨_, _, _, e1⟩⟩
    case h1 =>
      intro u pu hu
      refine ⟨_, (bcons (sset (i := 2) sc_law_pen.nd rfl (by first | exact Or.inl rfl | exact Or.inr rfl) (qop rAdd (qop rMul qint (qv 1)) qint))
      (bcons (sif (tcmp rLt (qv 1) (qB (fLen K) rfl T.b_len bt_len (qcons (qv 0) qnil)) (nomark _)) (bone (sset (i := 2) sc_law_pen.nd rfl (by first | exact Or.inl rfl | exact Or.inr rfl) (qix (xIx K) (qv 0) (qv 1) (fun _ _ => rfl)))) (bone (sif (tcmp rGt (qB (fLen K) rfl T.b_len bt_len (qcons (qv 0) qnil)) qint (nomark _)) (bone (sset (i := 2) sc_law_pen.nd rfl (by first | exact Or.inl rfl | exact Or.inr rfl) (qop rAdd (qix (xIx K) (qv 0) (qop rMod (qv 1) (qB (fLen K) rfl T.b_len bt_len (qcons (qv 0) qnil))) (fun _ _ => rfl)) (qop rMul qint (qv 1))))) bnil)))
      pu)), ?_⟩
      refine ⟨_, rfl, _, _, rfl, rfl, cmL (by decide), ?_⟩
      have hln : (ns.map V.int).length = ns.length := List.length_map _
      refine ⟨_, rfl, _, rfl, a, _, rfl, .inl ha, _, _, rfl, rfl, _, rfl, ?_⟩
      refine ite2 (fun hk => ?_) (fun _ => ?_)
      · have hk : k < (((ns.map V.int).length : Nat) : Int) := of_decide_eq_true hk
        obtain ⟨x, hx, _⟩ := atI_ints (ns := ns) (i := k) h0 (by rw [← hln]; exact hk)
        exact ⟨_, rfl, _, rfl, a, _, _, .int x, rfl, rfl, .inl ha, hx, hu _ _ ⟨rfl, _, rfl⟩⟩
      · refine ⟨_, rfl, a, _, rfl, .inl ha, _, _, rfl, rfl, _, rfl, ?_⟩
        refine ite2 (fun hpos => ?_) (fun _ => hu _ _ ⟨rfl, _, rfl⟩)
        have hpos : 0 < (((ns.map V.int).length : Nat) : Int) := of_decide_eq_true hpos
        obtain ⟨x, hx, _⟩ := atI_ints (ns := ns) (i := k % ((ns.map V.int).length : Int)) (Int.emod_nonneg _ (by omega)) (by rw [← hln]; exact Int.emod_lt_of_pos _ hpos)
        refine ⟨_, rfl, _, rfl, _, rfl, a, _, rfl, .inl ha, _, _, rfl, rfl, hpos, a, _, _, .int x, rfl, rfl, .inl ha, hx, _, rfl, _, _, rfl, rfl, cmL (by decide), ?_⟩
        exact hu _ _ ⟨rfl, _, rfl⟩
end
end K47

namespace K47
open PySem L2 L3

def keysT (p : List Int) : Str := Str.join ⟨#[32]⟩ (p.map num)
def layT (L : List (List Int)) : Str := Str.join ⟨#[124]⟩ (L.map keysT)
theorem sp_is : (" " : Str) = ⟨#[32]⟩ := by decide
theorem bar_is : ("|" : Str) = ⟨#[124]⟩ := by decide
def PgOk (p : List Int) : Prop := p.length ≤ 60 ∧ ∀ k ∈ p, Bd k
theorem num_free {c : Nat} (n : Int) (h : c ≠ 45 ∧ ¬ (48 ≤ c ∧ c ≤ 57)) : c ∉ ls (num n) := fun z => by
  rcases num_signs n c z with e | e
  · exact h.1 e
  · exact h.2 e
theorem keys_len {p : List Int} (h : PgOk p) : (keysT p).length ≤ 4000 := by
  have := join_le ⟨#[32]⟩ (p.map num) (B := 61) fun y hy => by
    obtain ⟨k, hk, rfl⟩ := List.mem_map.mp hy
    exact (num_len (h.2 k hk)).2
  rw [List.length_map] at this
  have h1 := h.1
  have h2 : (⟨#[32]⟩ : Str).length = 1 := rfl
  rw [h2] at this
  show (Str.join _ _).length ≤ _
  omega
theorem keys_ok {p : List Int} (h : PgOk p) : JoinOk ⟨#[32]⟩ (p.map num) = true := join_ok (B := 61) (fun y hy => by
    obtain ⟨k, hk, rfl⟩ := List.mem_map.mp hy
    exact (num_len (h.2 k hk)).2) (by
  rw [List.length_map]
  have h1 := h.1
  have h2 : (⟨#[32]⟩ : Str).length = 1 := rfl
  rw [h2]
  omega)
theorem keys_nil {p : List Int} (hb : ∀ k ∈ p, Bd k) : (keysT p).length = 0 ↔ p = [] := by
  constructor
  · intro h
    cases p with
    | nil => rfl
    | cons k r =>
      exfalso
      have hk := (num_len (hb k (by simp))).1
      rw [ls_len] at h hk
      unfold keysT at h
      rw [List.map_cons] at h
      cases r with
      | nil => rw [List.map_nil, join_one] at h; omega
      | cons k' r => rw [List.map_cons, ls_two, List.length_append, List.length_cons] at h; omega
  · intro h; rw [h]; rfl
theorem keys_signs (p : List Int) : ∀ c ∈ ls (keysT p), c = 32 ∨ c = 45 ∨ (48 ≤ c ∧ c ≤ 57) := fun c hc => by
  rcases join_mem 32 _ c hc with h | ⟨x, hx, h⟩
  · exact .inl h
  · obtain ⟨k, _, rfl⟩ := List.mem_map.mp hx
    exact .inr (num_signs k c h)
theorem keys_split {p : List Int} (hne : p ≠ []) : Txt.split (keysT p) ⟨#[32]⟩ = p.map num := split_join (by simpa using hne) fun x hx => by
  obtain ⟨k, _, rfl⟩ := List.mem_map.mp hx
  exact num_free k ⟨by decide, by decide⟩
theorem lay_split {L : List (List Int)} (hne : L ≠ []) : Txt.split (layT L) ⟨#[124]⟩ = L.map keysT := split_join (by simpa using hne) fun x hx z => by
  obtain ⟨p, _, rfl⟩ := List.mem_map.mp hx
  have := keys_signs p _ z
  omega
theorem lay_len {L : List (List Int)} (hl : L.length ≤ 60) (h : ∀ p ∈ L, PgOk p) : (layT L).length ≤ 300000 := by
  have := join_le ⟨#[124]⟩ (L.map keysT) (B := 4000) fun y hy => by
    obtain ⟨p, hp, rfl⟩ := List.mem_map.mp hy
    exact keys_len (h p hp)
  rw [List.length_map] at this
  have h2 : (⟨#[124]⟩ : Str).length = 1 := rfl
  rw [h2] at this
  show (Str.join _ _).length ≤ _
  omega
theorem lay_ok {L : List (List Int)} (hl : L.length ≤ 60) (h : ∀ p ∈ L, PgOk p) : JoinOk ⟨#[124]⟩ (L.map keysT) = true := join_ok (B := 4000) (fun y hy => by
    obtain ⟨p, hp, rfl⟩ := List.mem_map.mp hy
    exact keys_len (h p hp)) (by
  rw [List.length_map]
  have h2 : (⟨#[124]⟩ : Str).length = 1 := rfl
  rw [h2]
  omega)
theorem lay_nil {L : List (List Int)} (hb : ∀ p ∈ L, ∀ k ∈ p, Bd k) (h1 : L ≠ [[]]) : (layT L).length = 0 ↔ L = [] := by
  constructor
  · intro h
    cases L with
    | nil => rfl
    | cons p r =>
      exfalso
      unfold layT at h
      rw [List.map_cons] at h
      cases r with
      | nil =>
        rw [List.map_nil, join_one] at h
        exact h1 (by rw [(keys_nil (hb p (by simp))).mp h])
      | cons p' r => rw [ls_len, List.map_cons, ls_two, List.length_append, List.length_cons] at h; omega
  · intro h; rw [h]; rfl
/-! ### what each def promises -/
def spShK : Sp := fun vs H Q _ => ∃ (a : Addr) (p : List Int), vs = [.ref a] ∧ H a = some (.lst (p.map V.int)) ∧ PgOk p ∧ ∀ H', Same H H' → Q (.str (keysT p)) H'
def spShL : Sp := fun vs H Q _ => ∃ (a : Addr) (bs : List Addr) (L : List (List Int)), vs = [.ref a] ∧ H a = some (.lst (bs.map V.ref)) ∧ Pgs H bs L ∧ L.length ≤ 60 ∧ (∀ p ∈ L, PgOk p) ∧ ∀ H', Same H H' → Q (.str (layT L)) H'
def spFig : Sp := fun vs H Q _ => ∃ x : Str, vs = [.str x] ∧ (∀ c ∈ ls x, 48 ≤ c ∧ c ≤ 57) ∧ 1 ≤ x.length ∧ x.length ≤ 60 ∧ ∀ H', Same H H' → Q (.bl true) H'
def spNum : Sp := fun vs H Q _ => ∃ n : Int, vs = [.str (num n)] ∧ Bd n ∧ ∀ H', Same H H' → Q (.int n) H'
def spPg : Sp := fun vs H Q _ => ∃ p : List Int, vs = [.str (keysT p)] ∧ PgOk p ∧ ∀ r H', H r = none → Same H H' → H' r = some (.lst (p.map V.int)) → Q (.ref r) H'
def spLy : Sp := fun vs H Q _ => ∃ L : List (List Int), vs = [.str (layT L)] ∧ L ≠ [[]] ∧ L.length ≤ 60 ∧ (∀ p ∈ L, PgOk p) ∧ (L.map List.length).sum ≤ 60 ∧ ∀ r H' bs, H r = none → Same H H' → H' r = some (.lst (bs.map V.ref)) → Pgs H' bs L → (∀ b ∈ bs, H b = none ∧ b ≠ r) → bs.Nodup → Q (.ref r) H'
section
variable {P : Program} {w : World} {K : PySem.W.Frag} {mg : Str → Option Value} {base : Heap}
theorem ok_shk {f : Addr} (F : Fd K mg "show_keys" s_show_keys f) (T : Tx K mg) : Cal P w K mg base CX0 1 "show_keys" spShK := by
  refine F.cal sc_show_keys (fun _ _ _ _ _ _ us hl => match us, hl with | [_], _ => rfl) (fun vs H Q E h => ?_) (fun cdv A outer s H vs Q E hr h => ?_)
  · obtain ⟨a, p, rfl, _⟩ := h; rfl
  · obtain ⟨a, p, rfl, ea, hp, q⟩ := h
    refine ⟨_, (bone (sret (qBm K PySem.F.plainAttrs_str PySem.F.slot_str_join PySem.F.type_str_join (mJoin K) qstr (qcons (qcomp (sc := defScope s_show_keys) (NX := ["keys"]) ["key"] [none] rfl (iseq K (qv 0)) (fun _ _ _ => (gname (i := 0) (show (["key"] : List Str).Nodup by decide +kernel) rfl (by first | exact Or.inl rfl | exact Or.inr rfl))) (fun _ _ _ => csnil) (fun _ _ _ => (qTy fStr rfl T.b_str bt_str (qcons (qv 0) qnil))) rfl rfl (by decide +kernel)) qnil)))), ?_⟩
    refine ⟨rfl, _, rfl, a, rfl, .inl ⟨⟨_, SqL.of ea⟩, fun ac hac => ?_⟩⟩
    refine comp_list (xs := p.map V.int) (fun i ys σ G => ∃ z, σ = [z] ∧ Same H G ∧ G ac = some (.lst ys) ∧ ys = ((p.take i).map num).map V.str) ⟨none, rfl, same_new hac, upd_same, rfl⟩ (fun i ys σ G ⟨_, _, s', _⟩ => SqL.of (s' _ _ ea)) ?_ ?_
    · rintro i ys y σ G hy hi ⟨z, rfl, sG, aG, rfl⟩
      rw [List.getElem?_map] at hy
      obtain ⟨k, hk, rfl⟩ := Option.map_eq_some_iff.mp hy
      have hp1 := hp.1
      refine ⟨_, rfl, k, rfl, num_log (hp.2 k (List.mem_of_getElem? hk)), ?_⟩
      refine cpost aG (sizeBig (by simp; omega)) hi ?_
      exact ⟨_, rfl, same_upd sG hac, upd_same, by rw [List.take_add_one, hk, List.map_append, List.map_append]; rfl⟩
    · rintro ys σ G ⟨z, rfl, sG, aG, rfl⟩
      rw [List.length_map, List.take_length] at aG
      refine ⟨_, ac, p.map num, rfl, rfl, SqL.of aG, ?_, ?_⟩
      · rw [sp_is]; exact keys_ok hp
      · rw [sp_is]; exact q G sG
theorem ok_shl {f : Addr} (F : Fd K mg "show_layout" s_show_layout f) (T : Tx K mg) (C_show_keys : Cal P w K mg base CX0 1 "show_keys" spShK) : Cal P w K mg base CX0 2 "show_layout" spShL := by
  refine F.cal sc_show_layout (fun _ _ _ _ _ _ us hl => match us, hl with | [_], _ => rfl) (fun vs H Q E h => ?_) (fun cdv A outer s H vs Q E hr h => ?_)
  · obtain ⟨a, bs, L, rfl, _⟩ := h; rfl
  · obtain ⟨a, bs, L, rfl, ea, hg, hl, hp, q⟩ := h
    have hgl := hg.len
    refine ⟨_, (bone (sret (qBm K PySem.F.plainAttrs_str PySem.F.slot_str_join PySem.F.type_str_join (mJoin K) qstr (qcons (qcomp (sc := defScope s_show_layout) (NX := ["layout"]) ["page"] [none] rfl (iseq K (qv 0)) (fun _ _ _ => (gname (i := 0) (show (["page"] : List Str).Nodup by decide +kernel) rfl (by first | exact Or.inl rfl | exact Or.inr rfl))) (fun _ _ _ => csnil) (fun _ _ _ => (qF C_show_keys (hr.mono (by omega)) pass0 rfl (qcons (qv 0) qnil))) rfl rfl (by decide +kernel)) qnil)))), ?_⟩
    refine ⟨rfl, _, rfl, a, rfl, .inl ⟨⟨_, SqL.of ea⟩, fun ac hac => ?_⟩⟩
    refine comp_list (xs := bs.map V.ref) (fun i ys σ G => ∃ z, σ = [z] ∧ Same H G ∧ G ac = some (.lst ys) ∧ ys = ((L.take i).map keysT).map V.str) ⟨none, rfl, same_new hac, upd_same, rfl⟩ (fun i ys σ G ⟨_, _, s', _⟩ => SqL.of (s' _ _ ea)) ?_ ?_
    · rintro i ys y σ G hy hi ⟨z, rfl, sG, aG, rfl⟩
      rw [List.getElem?_map] at hy
      obtain ⟨b, hb, rfl⟩ := Option.map_eq_some_iff.mp hy
      obtain ⟨p, hpi, eb⟩ := hg.at hb
      refine ⟨_, rfl, b, p, rfl, sG _ _ eb, hp p (List.mem_of_getElem? hpi), fun G2 s2 => ?_⟩
      refine cpost (s2 _ _ aG) (sizeBig (by simp; omega)) hi ?_
      exact ⟨_, rfl, same_upd (sG.trans s2) hac, upd_same, by rw [List.take_add_one, hpi, List.map_append, List.map_append]; rfl⟩
    · rintro ys σ G ⟨z, rfl, sG, aG, rfl⟩
      rw [List.length_map, hgl, List.take_length] at aG
      refine ⟨_, ac, L.map keysT, rfl, rfl, SqL.of aG, ?_, ?_⟩
      · rw [bar_is]; exact lay_ok hl hp
      · rw [bar_is]; exact q G sG
theorem ok_fig {f : Addr} (F : Fd K mg "has_figures_alone" s_has_figures_alone f) (T : Tx K mg) : Cal P w K mg base CX0 1 "has_figures_alone" spFig := by
  refine F.cal sc_has_figures_alone (fun _ _ _ _ _ _ us hl => match us, hl with | [_], _ => rfl) (fun vs H Q E h => ?_) (fun cdv A outer s H vs Q E hr h => ?_)
  · obtain ⟨x, rfl, _⟩ := h; rfl
  · obtain ⟨x, rfl, hd, h1, h60, q⟩ := h
    refine ⟨_, (bone (sret (qand K (qchain rLe rLe qint (qB fLenS rfl T.b_len bt_len (qcons (qv 0) qnil)) (qglobI rfl T.g_MOST_FIGURES)) (qone (qB (fAll K) rfl T.b_all bt_all (qcons (qcomp (sc := defScope s_has_figures_alone) (NX := ["word"]) ["sign"] [none] rfl (istr (qv 0)) (fun _ _ _ => (gname (i := 0) (show (["sign"] : List Str).Nodup by decide +kernel) rfl (by first | exact Or.inl rfl | exact Or.inr rfl))) (fun _ _ _ => csnil) (fun _ _ _ => (qcmp rInS (qv 0) (qglobS rfl T.g_FIGURES) (by with_unfolding_all rfl))) rfl rfl (by decide +kernel)) qnil)))))), ?_⟩
    have hsz : x.cps.size = x.length := rfl
    refine ⟨_, rfl, x, rfl, sizeBig' (by omega), _, _, rfl, rfl, _, rfl, ?_⟩
    rw [decide_eq_true (show (1 : Int) ≤ (x.length : Int) by omega)]
    refine iteT ?_
    refine ⟨_, _, rfl, rfl, _, rfl, ?_⟩
    rw [decide_eq_true (show (x.length : Int) ≤ (60 : Int) by omega)]
    refine iteT ?_
    refine ⟨_, rfl, x, rfl, ascii_of (fun c hc => by have := hd c hc; omega), fun ac hac => ?_⟩
    refine comp_str (fun i ys σ G => ∃ z, σ = [z] ∧ Same H G ∧ G ac = some (.lst ys) ∧ ys = (List.replicate i true).map V.bl) ⟨none, rfl, same_new hac, upd_same, rfl⟩ ?_ ?_
    · rintro i ys c σ G hc hi ⟨z, rfl, sG, aG, rfl⟩
      have hcm : c ∈ ls x := by
        rw [Array.getElem?_eq_some_iff] at hc
        obtain ⟨h1, h2⟩ := hc
        rw [← h2]; simp
      refine ⟨_, rfl, _, _, rfl, rfl, ?_⟩
      rw [show (("0123456789" : Str)) = figures from rfl, in_figures (hd c hcm)]
      refine cpost aG (sizeBig (by simp; omega)) hi ?_
      exact ⟨_, rfl, same_upd sG hac, upd_same, by rw [List.replicate_succ', List.map_append]; rfl⟩
    · rintro ys σ G ⟨z, rfl, sG, aG, rfl⟩
      refine ⟨ac, _, rfl, SqL.of aG, ?_⟩
      have e : (List.replicate x.cps.size true).all id = true := by simp
      show Q (.bl _) G
      have := q G sG
      first | (rw [← e] at this; exact this) | (simpa using this)
end
end K47

namespace K47
open PySem L2 L3

theorem sizeHuge {n : Nat} (h : n ≤ 300000) : n ≤ sizeLine := Nat.le_trans h (by decide)
theorem tru_len {K : PySem.W.Frag} {x : Str} {H : Hp} (h : x.length ≤ sizeLine) : TruV K (.str x) H ((x.length : Int) != 0) := ⟨h, rfl⟩
section
variable {P : Program} {w : World} {K : PySem.W.Frag} {mg : Str → Option Value} {base : Heap}
theorem ok_num {f : Addr} (F : Fd K mg "read_number" s_read_number f) (T : Tx K mg) (C_has_figures_alone : Cal P w K mg base CX0 1 "has_figures_alone" spFig) : Cal P w K mg base CX0 2 "read_number" spNum := by
  refine F.cal sc_read_number (fun _ _ _ _ _ _ us hl => match us, hl with | [_], _ => rfl) (fun vs H Q E h => ?_) (fun cdv A outer s H vs Q E hr h => ?_)
  · obtain ⟨n, rfl, _⟩ := h; rfl
  · obtain ⟨n, rfl, hb, q⟩ := h
    have hl := num_len hb
    refine ⟨_, (bcons (sset (i := 1) sc_read_number.nd rfl (by first | exact Or.inl rfl | exact Or.inr rfl) (qif (ttru K (qBm K PySem.F.plainAttrs_str PySem.F.slot_str_startswith PySem.F.type_str_startswith mStarts (qv 0) (qcons qstr qnil)) (fun _ => rfl)) (qslice xSlS (qv 0) (osome qint) onone) (qv 0)))
      (bcons (sif (QW.tst (wor (tnot (ttru K (qF C_has_figures_alone (hr.mono (by omega)) pass0 rfl (qcons (qv 1) qnil)) (fun _ => rfl))) (wor1 (tcmp (rNeq hr) (qTy fStr rfl T.b_str bt_str (qcons (qTy fIntT rfl T.b_int bt_int (qcons (qv 0) qnil)) qnil)) (qv 0) (nomark _))))) (bone snever) bnil)
      (bone (sret (qTy fIntT rfl T.b_int bt_int (qcons (qv 0) qnil)))))), ?_⟩
    have fin : ∀ G, Same H G → _ := fun G sG => q G sG
    apply join (fun σ' G => σ' = [some (.str (num n)), some (.str (bare n))] ∧ G = H)
    case h2 =>
      intro hj
      refine ⟨_, rfl, rfl, num n, _, rfl, rfl, _, rfl, ?_⟩
      rw [minus_is, num_starts]
      refine ite2 (fun h => ?_) (fun h => ?_)
      · have h : n < 0 := of_decide_eq_true h
        refine ⟨_, rfl, _, rfl, num n, rfl, ?_⟩
        rw [num_cut h]
        exact ⟨sizeBig' (by have := bare_len hb; omega), hj _ _ ⟨rfl, rfl⟩⟩
      · have h : ¬ n < 0 := fun z => h (decide_eq_true z)
        refine ⟨_, rfl, ?_⟩
        have e : bare n = num n := by unfold bare; rw [if_neg h]
        exact hj _ _ ⟨by rw [e]; rfl, rfl⟩
    rintro σ' G ⟨rfl, rfl⟩
    have hbl := bare_len hb
    refine ⟨_, rfl, bare n, rfl, ?_, hbl.1, hbl.2, fun G1 s1 => ?_⟩
    · intro c hc
      rw [bare_ls] at hc
      exact figs_dig _ c hc
    refine ⟨_, rfl, ?_⟩
    refine iteF ?_
    refine ⟨_, rfl, num n, n, rfl, num_reads hb, by omega, n, rfl, num_log hb, _, rfl, ?_⟩
    refine ⟨_, rfl, ?_⟩
    rw [show decide ((Str.ofString (toString n)) = num n) = true from decide_eq_true rfl]
    refine iteF ?_
    exact ⟨_, rfl, num n, n, rfl, num_reads hb, by omega, q G1 s1⟩
theorem ok_pg {f : Addr} (F : Fd K mg "read_page" s_read_page f) (T : Tx K mg) (C_read_number : Cal P w K mg base CX0 2 "read_number" spNum) : Cal P w K mg base CX0 3 "read_page" spPg := by
  refine F.cal sc_read_page (fun _ _ _ _ _ _ us hl => match us, hl with | [_], _ => rfl) (fun vs H Q E h => ?_) (fun cdv A outer s H vs Q E hr h => ?_)
  · obtain ⟨p, rfl, _⟩ := h; rfl
  · obtain ⟨p, rfl, hp, q⟩ := h
    have hl := keys_len hp
    have hnil := keys_nil hp.2
    refine ⟨_, (bone (sret (qif (ttru K (qv 0) (fun _ => rfl)) (qcomp (sc := defScope s_read_page) (NX := ["text"]) ["word"] [none] rfl (iseq K (qBm K PySem.F.plainAttrs_str PySem.F.slot_str_split PySem.F.type_str_split mSplit (qv 0) (qcons qstr qnil))) (fun _ _ _ => (gname (i := 0) (show (["word"] : List Str).Nodup by decide +kernel) rfl (by first | exact Or.inl rfl | exact Or.inr rfl))) (fun _ _ _ => csnil) (fun _ _ _ => (qF C_read_number (hr.mono (by omega)) pass0 rfl (qcons (qv 0) qnil))) rfl rfl (by decide +kernel)) (qlst qnil)))), ?_⟩
    refine ⟨_, rfl, _, tru_len (sizeBig' (by omega)), ?_⟩
    by_cases hne : p = []
    · have e0 : (((keysT p).length : Int) != 0) = false := by rw [hnil.mpr hne]; rfl
      rw [e0]
      refine iteF ?_
      exact ⟨(show 0 ≤ sizeLine by decide), fun r H1 n1 s1 e1 _ => q r H1 n1 s1 (by rw [hne]; exact e1)⟩
    · have h0 : (keysT p).length ≠ 0 := fun z => hne (hnil.mp z)
      have e0 : (((keysT p).length : Int) != 0) = true := by
        rw [bne_iff_ne]; omega
      rw [e0]
      refine iteT ?_
      have hp1 := hp.1
      refine ⟨_, rfl, rfl, keysT p, _, rfl, rfl, ?_, sizeBig' (by omega), ?_, ?_⟩
      · rfl
      · rw [sp_is, keys_split hne, List.length_map]; exact sizeBig' (by omega)
      rw [sp_is, keys_split hne]
      refine fun l1 H1 n1 s1 e1 _ => ?_
      refine ⟨l1, rfl, .inl ⟨⟨_, SqL.of e1⟩, fun ac hac => ?_⟩⟩
      refine comp_list (xs := (p.map num).map V.str) (fun i ys σ G => ∃ z, σ = [z] ∧ Same H1 G ∧ G ac = some (.lst ys) ∧ ys = (p.take i).map V.int) ⟨none, rfl, same_new hac, upd_same, rfl⟩ (fun i ys σ G ⟨_, _, s', _⟩ => SqL.of (s' _ _ e1)) ?_ ?_
      · rintro i ys y σ G hy hi ⟨z, rfl, sG, aG, rfl⟩
        rw [List.getElem?_map, List.getElem?_map] at hy
        obtain ⟨x, hx, rfl⟩ := Option.map_eq_some_iff.mp hy
        obtain ⟨k, hk, rfl⟩ := Option.map_eq_some_iff.mp hx
        refine ⟨_, rfl, k, rfl, hp.2 k (List.mem_of_getElem? hk), fun G2 s2 => ?_⟩
        refine cpost (s2 _ _ aG) (sizeBig (by simp; omega)) hi ?_
        exact ⟨_, rfl, same_upd (sG.trans s2) hac, upd_same, by rw [List.take_add_one, hk, List.map_append]; rfl⟩
      · rintro ys σ G ⟨z, rfl, sG, aG, rfl⟩
        rw [List.length_map, List.length_map, List.take_length] at aG
        exact q ac G (s1.free hac) (s1.trans sG) aG
theorem ok_ly {f : Addr} (F : Fd K mg "read_layout" s_read_layout f) (T : Tx K mg) (C_read_page : Cal P w K mg base CX0 3 "read_page" spPg) : Cal P w K mg base CX0 4 "read_layout" spLy := by
  refine F.cal sc_read_layout (fun _ _ _ _ _ _ us hl => match us, hl with | [_], _ => rfl) (fun vs H Q E h => ?_) (fun cdv A outer s H vs Q E hr h => ?_)
  · obtain ⟨L, rfl, _⟩ := h; rfl
  · obtain ⟨L, rfl, h1, hL, hp, hsum, q⟩ := h
    have hl := lay_len hL hp
    have hnil := lay_nil (fun p hp' => (hp p hp').2) h1
    refine ⟨_, (bcons (sif (tnot (ttru K (qB (fIsi K) rfl T.b_isinstance bt_isinstance (qcons (qv 0) (qcons (qty rfl T.b_str bt_str) qnil))) (fun _ => rfl))) (bone snever) bnil)
      (bcons (sset (i := 1) sc_read_layout.nd rfl (by first | exact Or.inl rfl | exact Or.inr rfl) (qif (ttru K (qv 0) (fun _ => rfl)) (qcomp (sc := defScope s_read_layout) (NX := ["text", "layout"]) ["part"] [none] rfl (iseq K (qBm K PySem.F.plainAttrs_str PySem.F.slot_str_split PySem.F.type_str_split mSplit (qv 0) (qcons qstr qnil))) (fun _ _ _ => (gname (i := 0) (show (["part"] : List Str).Nodup by decide +kernel) rfl (by first | exact Or.inl rfl | exact Or.inr rfl))) (fun _ _ _ => csnil) (fun _ _ _ => (qF C_read_page (hr.mono (by omega)) pass0 rfl (qcons (qv 0) qnil))) rfl rfl (by decide +kernel)) (qlst qnil)))
      (bcons (sif (QW.tst (wor (tcmp rGt (qB (fLen K) rfl T.b_len bt_len (qcons (qv 1) qnil)) (qglobI rfl T.g_MOST_PAGES) (nomark _)) (wor1 (tcmp rGt (qB (fSum K) rfl T.b_sum bt_sum (qcons (qcomp (sc := defScope s_read_layout) (NX := ["text", "layout"]) ["page"] [none] rfl (iseq K (qv 1)) (fun _ _ _ => (gname (i := 0) (show (["page"] : List Str).Nodup by decide +kernel) rfl (by first | exact Or.inl rfl | exact Or.inr rfl))) (fun _ _ _ => csnil) (fun _ _ _ => (qB (fLen K) rfl T.b_len bt_len (qcons (qv 0) qnil))) rfl rfl (by decide +kernel)) qnil)) (qglobI rfl T.g_MOST_KEYS) (nomark _))))) (bone snever) bnil)
      (bone (sret (qv 1)))))), ?_⟩
    refine ⟨_, rfl, .str (layT L), _, _, _, rfl, (Rep.str (layT L) : Rep H _ _).ty, kit_str K (D.str (layT L)), _, rfl, ?_⟩
    refine iteF ?_
    apply join (fun σ' G => ∃ (r : Addr) (bs : List Addr), σ' = [some (.str (layT L)), some (.ref r)] ∧ Same H G ∧ H r = none ∧ G r = some (.lst (bs.map V.ref)) ∧ Pgs G bs L ∧ (∀ b ∈ bs, H b = none ∧ b ≠ r) ∧ bs.Nodup)
    case h2 =>
      intro hj
      refine ⟨_, rfl, _, tru_len (sizeHuge (by omega)), ?_⟩
      by_cases hne : L = []
      · have e0 : (((layT L).length : Int) != 0) = false := by rw [hnil.mpr hne]; rfl
        rw [e0]
        refine iteF ?_
        exact ⟨(show 0 ≤ sizeLine by decide), fun r H1 n1 s1 e1 _ => hj _ _ ⟨r, [], rfl, s1, n1, e1, by rw [hne]; trivial, (fun b hb => nomatch hb), List.nodup_nil⟩⟩
      · have h0 : (layT L).length ≠ 0 := fun z => hne (hnil.mp z)
        have e0 : (((layT L).length : Int) != 0) = true := by
          rw [bne_iff_ne]; omega
        rw [e0]
        refine iteT ?_
        refine ⟨_, rfl, rfl, layT L, _, rfl, rfl, ?_, sizeHuge (by omega), ?_, ?_⟩
        · rfl
        · rw [bar_is, lay_split hne, List.length_map]; exact sizeBig' (by omega)
        rw [bar_is, lay_split hne]
        refine fun l1 H1 n1 s1 e1 _ => ?_
        refine ⟨l1, rfl, .inl ⟨⟨_, SqL.of e1⟩, fun ac hac => ?_⟩⟩
        refine comp_list (xs := (L.map keysT).map V.str) (fun i ys σ G => ∃ z bs, σ = [z] ∧ Same H1 G ∧ G ac = some (.lst ys) ∧ ys = bs.map V.ref ∧ Pgs G bs (L.take i) ∧ (∀ b ∈ bs, H b = none ∧ b ≠ ac) ∧ bs.Nodup) ⟨none, [], rfl, same_new hac, upd_same, rfl, trivial, (fun b hb => nomatch hb), List.nodup_nil⟩ (fun i ys σ G ⟨_, _, _, s', _⟩ => SqL.of (s' _ _ e1)) ?_ ?_
        · rintro i ys y σ G hy hi ⟨z, bs, rfl, sG, aG, rfl, pG, hb, nd⟩
          rw [List.getElem?_map, List.getElem?_map] at hy
          obtain ⟨x, hx, rfl⟩ := Option.map_eq_some_iff.mp hy
          obtain ⟨p, hk, rfl⟩ := Option.map_eq_some_iff.mp hx
          have hbl := pG.len
          rw [List.length_take] at hbl
          refine ⟨_, rfl, p, rfl, hp p (List.mem_of_getElem? hk), fun b G2 n2 s2 e2 => ?_⟩
          have hba : b ≠ ac := fun z => by rw [z, aG] at n2; cases n2
          refine cpost (s2 _ _ aG) (sizeBig (by rw [List.length_map]; omega)) hi ?_
          refine ⟨_, bs ++ [b], rfl, same_upd (sG.trans s2) hac, upd_same, by rw [List.map_append]; rfl, ?_, fun c hc => ?_, ?_⟩
          · rw [List.take_add_one, hk]
            refine ((pG.mono s2).stay fun c hc => upd_ne (hb c hc).2).snoc ?_
            rw [upd_ne hba]; exact e2
          · rcases List.mem_append.mp hc with hc | hc
            · exact hb c hc
            · rw [List.mem_singleton] at hc
              rw [hc]; exact ⟨(s1.trans sG).free n2, hba⟩
          · refine List.nodup_append.mpr ⟨nd, by simp, fun c hc d hd z => ?_⟩
            rw [List.mem_singleton] at hd
            obtain ⟨_, _, e⟩ := pG.of hc
            rw [z, hd, n2] at e; cases e
        · rintro ys σ G ⟨z, bs, rfl, sG, aG, rfl, pG, hb, nd⟩
          rw [List.length_map, List.length_map, List.take_length] at pG
          exact hj _ _ ⟨ac, bs, rfl, s1.trans sG, s1.free hac, aG, pG, hb, nd⟩
    rintro σ' G ⟨r, bs, rfl, sG, nr, er, pg, hb, nd⟩
    have hbl := pg.len
    refine ⟨_, rfl, r, _, rfl, .inl (SqL.of er), _, _, rfl, rfl, _, rfl, ?_⟩
    rw [List.length_map, decide_eq_false (show ¬ (60 : Int) < ((bs.length : Nat) : Int) by omega)]
    refine iteF ?_
    refine ⟨_, rfl, r, rfl, .inl ⟨⟨_, SqL.of er⟩, fun ac hac => ?_⟩⟩
    refine comp_list (xs := bs.map V.ref) (fun i ys σ G' => ∃ z, σ = [z] ∧ Same G G' ∧ G' ac = some (.lst ys) ∧ ys = (((L.take i).map List.length).map fun n : Nat => (n : Int)).map V.int) ⟨none, rfl, same_new hac, upd_same, rfl⟩ (fun i ys σ G ⟨_, _, s', _⟩ => SqL.of (s' _ _ er)) ?_ ?_
    · rintro i ys y σ G' hy hi ⟨z, rfl, sG', aG, rfl⟩
      rw [List.getElem?_map] at hy
      obtain ⟨b, hb', rfl⟩ := Option.map_eq_some_iff.mp hy
      obtain ⟨p, hpi, eb⟩ := pg.at hb'
      refine ⟨_, rfl, b, _, rfl, .inl (SqL.of (sG' _ _ eb)), ?_⟩
      refine cpost aG (sizeBig (by simp; omega)) hi ?_
      exact ⟨_, rfl, same_upd sG' hac, upd_same, by rw [List.length_map, List.take_add_one, hpi, List.map_append, List.map_append, List.map_append]; rfl⟩
    · rintro ys σ G' ⟨z, rfl, sG', aG, rfl⟩
      rw [List.length_map, hbl, List.take_length] at aG
      refine ⟨ac, _, rfl, SqL.of aG, _, _, rfl, rfl, _, rfl, ?_⟩
      have hs : ((L.map List.length).map fun n : Nat => (n : Int)).sum = ((L.map List.length).sum : Int) := by
        generalize L.map List.length = xs
        induction xs with
        | nil => rfl
        | cons x xs ih => rw [List.map_cons, List.sum_cons, List.sum_cons, ih]; omega
      rw [hs, decide_eq_false (show ¬ (60 : Int) < (((L.map List.length).sum : Nat) : Int) by omega)]
      refine iteF ?_
      exact ⟨_, rfl, q r G' bs nr (sG.trans sG') (sG' _ _ er) (pg.mono sG') hb nd⟩
end
end K47

namespace K47
open PySem L2 L3

theorem Ls_inj {A B : List (List Int)} (h : Ls A = Ls B) : A = B := by
  unfold Ls at h
  injection h with h
  refine (List.map_inj_right ?_).mp h
  intro p q e
  injection e with e
  refine (List.map_inj_right ?_).mp e
  intro i j e
  injection e
theorem pen_pg {H H' : Hp} {p : Addr} {bs : List Addr} {L : List (List Int)} (h : Pgs H bs L) (s : Same (rm p H) H') (hb : ∀ b ∈ bs, b ≠ p) : Pgs H' bs L := by
  induction bs generalizing L with
  | nil => cases L with
    | nil => trivial
    | cons => exact h.elim
  | cons b bs ih => cases L with
    | nil => exact h.elim
    | cons q L => exact ⟨rm_look s h.1 (hb b (by simp)), ih h.2 fun c hc => hb c (by simp [hc])⟩
def spKey : Sp := fun vs H Q _ => ∃ p : Addr, vs = [.ref p] ∧ Pen3 H p ∧ ∀ (n : Int) H', Bd n → Pen3 H' p → Same (rm p H) H' → Q (.int n) H'
structure LayOk (L : List (List Int)) : Prop where
  one : L ≠ [[]]
  len : L.length ≤ 60
  pgs : ∀ p ∈ L, PgOk p
  sum : (L.map List.length).sum ≤ 60
def spLayout : Sp := fun vs H Q _ => ∃ p : Addr, vs = [.ref p] ∧ Pen3 H p ∧ ∀ (r : Addr) (bs : List Addr) (L : List (List Int)) H', H r = none → Pen3 H' p → Same (rm p H) H' → H' r = some (.lst (bs.map V.ref)) → Pgs H' bs L → LayOk L → (∀ b ∈ bs, H b = none ∧ b ≠ r) → bs.Nodup → Q (.ref r) H'
def spText : Sp := fun vs H Q _ => ∃ (a : Addr) (bs : List Addr) (L : List (List Int)), vs = [.ref a] ∧ H a = some (.lst (bs.map V.ref)) ∧ Pgs H bs L ∧ LayOk L ∧ ∀ H', Same H H' → Q (.str (layT L)) H'
theorem bd_of {n : Int} (h1 : -(10 ^ 60) < n) (h2 : n < 10 ^ 60) : Bd n := by
  unfold Bd
  have e : ((10 ^ 60 : Nat) : Int) = (10 : Int) ^ 60 := by norm_cast
  omega
/-- the text of i pages and j keys of the next -/
def preT (L : List (List Int)) (i : Nat) : Str := if i = 0 then Str.empty else layT (L.take i) ++ ⟨#[124]⟩
theorem lay_next {L : List (List Int)} {i : Nat} {p : List Int} (h : L[i]? = some p) : layT (L.take (i + 1)) = preT L i ++ keysT p := by
  have e : L.take (i + 1) = L.take i ++ [p] := by rw [List.take_add_one, h]; rfl
  have hi := (List.getElem?_eq_some_iff.mp h).1
  unfold preT layT
  rw [e, List.map_append]
  by_cases c : i = 0
  · subst c
    rw [if_pos rfl, PySem.Str.empty_append]; rfl
  · rw [if_neg c]
    show Str.join _ (_ ++ [keysT p]) = _
    rw [join_snoc]
    intro z
    have := congrArg List.length z
    rw [List.length_map, List.length_take, List.length_nil] at this
    omega
theorem keys_next {p : List Int} {j : Nat} {k : Int} (h : p[j]? = some k) : keysT (p.take (j + 1)) = (if j = 0 then Str.empty else keysT (p.take j) ++ ⟨#[32]⟩) ++ num k := by
  have e : p.take (j + 1) = p.take j ++ [k] := by rw [List.take_add_one, h]; rfl
  have hi := (List.getElem?_eq_some_iff.mp h).1
  unfold keysT
  rw [e, List.map_append]
  by_cases c : j = 0
  · subst c
    rw [if_pos rfl, PySem.Str.empty_append]; rfl
  · rw [if_neg c]
    show Str.join _ (_ ++ [num k]) = _
    rw [join_snoc]
    intro z
    have := congrArg List.length z
    rw [List.length_map, List.length_take, List.length_nil] at this
    omega
theorem PgOk.take {p : List Int} (h : PgOk p) (j : Nat) : PgOk (p.take j) := ⟨by rw [List.length_take]; have := h.1; omega, fun k hk => h.2 k (List.mem_of_mem_take hk)⟩
theorem pre_len {L : List (List Int)} (h : LayOk L) (i : Nat) : (preT L i).length ≤ 300001 := by
  unfold preT
  split
  · show 0 ≤ _; omega
  · rw [PySem.Str.length_append]
    have := lay_len (L := L.take i) (by rw [List.length_take]; have := h.len; omega) fun p hp => h.pgs p (List.mem_of_mem_take hp)
    show _ + 1 ≤ _
    omega
theorem big {n : Nat} (h : n ≤ 400000) : n ≤ sizeLine := Nat.le_trans h (by decide)
section
variable {P : Program} {w : World} {K : PySem.W.Frag} {mg : Str → Option Value} {base : Heap}
theorem ok_key {f : Addr} (F : Fd K mg "_law_key" s_law_key f) (T : Tx K mg) (C_law_draw : Cal P w K mg base CX0 1 "_law_draw" spDraw) : Cal P w K mg base CX0 2 "_law_key" spKey := by
  refine F.cal sc_law_key (fun _ _ _ _ _ _ us hl => match us, hl with | [_], _ => rfl) (fun vs H Q E h => ?_) (fun cdv A outer s H vs Q E hr h => ?_)
  · obtain ⟨p, rfl, _⟩ := h; rfl
  · obtain ⟨p, rfl, hp, q⟩ := h
    refine ⟨_, (bcons (sset (i := 1) sc_law_key.nd rfl (by first | exact Or.inl rfl | exact Or.inr rfl) (qF C_law_draw (hr.mono (by omega)) pass0 rfl (qcons (qv 0) (qcons qint qnil))))
      (bcons (sset (i := 2) sc_law_key.nd rfl (by first | exact Or.inl rfl | exact Or.inr rfl) (qop rSub qint (qop rMul qint (qF C_law_draw (hr.mono (by omega)) pass0 rfl (qcons (qv 0) (qcons qint qnil))))))
      (bcons (sif (tcmp (rEqq hr) (qv 1) qint (nomark _)) (bone (sret (qop rMul (qv 2) (qop rSub (qop rSub (qop rPow qint qint) qint) (qF C_law_draw (hr.mono (by omega)) pass0 rfl (qcons (qv 0) (qcons (qop rPow qint qint) qnil))))))) bnil)
      (bone (sret (qop rMul (qv 2) (qF C_law_draw (hr.mono (by omega)) pass0 rfl (qcons (qv 0) (qcons (qix (xIx K) (qlst (qcons qint (qcons qint (qcons qint (qcons (qop rPow qint qint) (qcons (qop rPow qint qint) qnil)))))) (qv 1) (fun _ _ => rfl)) qnil))))))))), ?_⟩
    refine ⟨_, rfl, p, 6, rfl, hp, by decide, by decide, fun kd H1 k0 k1 p1 s1 => ?_⟩
    refine ⟨_, rfl, p, 2, rfl, p1, by decide, by decide, fun sg H2 g0 g1 p2 s2 => ?_⟩
    have s02 := rm_trans s1 s2
    refine ⟨_, _, rfl, rfl, .inl ⟨by decide, by decide⟩, _, _, rfl, rfl, ?_⟩
    obtain ⟨sn, hsn, hsg⟩ : ∃ sn : Int, (1 : Int) - 2 * sg = sn ∧ (sn = 1 ∨ sn = -1) := ⟨_, rfl, by omega⟩
    dsimp only
    rw [hsn]
    refine ⟨_, rfl, _, rfl, ?_⟩
    have fin : ∀ (d : Int) H', 0 ≤ d → d < 10 ^ 60 → Pen3 H' p → Same (rm p H) H' → Q (.int (sn * d)) H' := fun d H' d0 d1 p' s' => by
      refine q _ H' ?_ p' s'
      rcases hsg with e | e
      · rw [e, Int.one_mul]; exact bd_of (by omega) d1
      · rw [e, Int.neg_one_mul]; exact bd_of (by omega) (by omega)
    have hm : CMul sn 0 := .inl ⟨by rcases hsg with e | e <;> rw [e] <;> decide, by rcases hsg with e | e <;> rw [e] <;> decide⟩
    have hmul : ∀ d, CMul sn d := fun d => .inl ⟨by rcases hsg with e | e <;> rw [e] <;> decide, by rcases hsg with e | e <;> rw [e] <;> decide⟩
    refine ite2 (fun h => ?_) (fun h => ?_)
    · refine ⟨_, rfl, _, _, rfl, rfl, ⟨by decide, by decide, by decide⟩, _, _, rfl, rfl, _, rfl, _, _, rfl, rfl, ⟨by decide, by decide, by decide⟩, p, _, rfl, p2, by decide, by decide, fun d H3 d0 d1 p3 s3 => ?_⟩
      refine ⟨_, _, rfl, rfl, _, _, rfl, rfl, hmul _, ?_⟩
      have d1 : d < 10 ^ 8 := d1
      exact fin _ H3 (by show (0 : Int) ≤ 10 ^ 60 - 1 - d; omega) (by show (10 : Int) ^ 60 - 1 - d < 10 ^ 60; omega) p3 (rm_trans s02 s3)
    · have h : ¬ kd = 5 := fun z => h (decide_eq_true z)
      refine ⟨_, rfl, _, rfl, _, _, rfl, rfl, ⟨by decide, by decide, by decide⟩, _, _, rfl, rfl, ⟨by decide, by decide, by decide⟩, (show 5 ≤ sizeLine by decide), fun l3 H3 n3 s3 e3 _ => ?_⟩
      obtain ⟨c, hc1, hc2, hc3⟩ : ∃ c : Int, atI [V.int 3, V.int 10, V.int 100, V.int ((10 : Int) ^ (6 : Int).toNat), V.int ((10 : Int) ^ (8 : Int).toNat)] kd = some (.int c) ∧ 0 < c ∧ c ≤ 10 ^ 8 := by
        have : kd = 0 ∨ kd = 1 ∨ kd = 2 ∨ kd = 3 ∨ kd = 4 := by omega
        rcases this with e | e | e | e | e <;> subst e
        · exact ⟨3, rfl, by decide, by decide⟩
        · exact ⟨10, rfl, by decide, by decide⟩
        · exact ⟨100, rfl, by decide, by decide⟩
        · exact ⟨_, rfl, by decide, by decide⟩
        · exact ⟨_, rfl, by decide, by decide⟩
      refine ⟨_, rfl, l3, _, _, _, rfl, rfl, .inl (SqL.of e3), hc1, ?_⟩
      refine ⟨p, c, rfl, p2.mono s3, hc2, by have : (10 : Int) ^ 8 < 10 ^ 100 := by decide +kernel
                                             omega, fun d H4 d0 d1 p4 s4 => ?_⟩
      refine ⟨_, _, rfl, rfl, hmul _, ?_⟩
      exact fin _ H4 d0 (by have : (10 : Int) ^ 8 < 10 ^ 60 := by decide +kernel
                            omega) p4 (rm_trans (s02.trans s3) s4)
theorem ok_text {f : Addr} (F : Fd K mg "_law_text" s_law_text f) (T : Tx K mg) : Cal P w K mg base CX0 1 "_law_text" spText := by
  refine F.cal sc_law_text (fun _ _ _ _ _ _ us hl => match us, hl with | [_], _ => rfl) (fun vs H Q E h => ?_) (fun cdv A outer s H vs Q E hr h => ?_)
  · obtain ⟨a, bs, L, rfl, _⟩ := h; rfl
  · obtain ⟨a, bs, L, rfl, ea, hg, hL, q⟩ := h
    have hgl := hg.len
    refine ⟨_, (bcons (sset (i := 1) sc_law_text.nd rfl (by first | exact Or.inl rfl | exact Or.inr rfl) qstr)
      (bcons (sfor PassesOwn.never rfl (ienum K rfl T.b_enumerate (qcons (qv 0) qnil)) (gtup (n := 2) K rfl (gscons (gname (i := 2) sc_law_text.nd rfl (by first | exact Or.inl rfl | exact Or.inr rfl)) (gscons (gname (i := 3) sc_law_text.nd rfl (by first | exact Or.inl rfl | exact Or.inr rfl)) gsnil)))
        (bcons (sif (tcmp rGt (qv 2) qint (nomark _)) (bone (sset (i := 1) sc_law_text.nd rfl (by first | exact Or.inl rfl | exact Or.inr rfl) (qop rAdd (qv 1) qstr))) bnil)
        (bone (sfor PassesOwn.never rfl (ienum K rfl T.b_enumerate (qcons (qv 3) qnil)) (gtup (n := 2) K rfl (gscons (gname (i := 4) sc_law_text.nd rfl (by first | exact Or.inl rfl | exact Or.inr rfl)) (gscons (gname (i := 5) sc_law_text.nd rfl (by first | exact Or.inl rfl | exact Or.inr rfl)) gsnil)))
          (bcons (sif (tcmp rGt (qv 4) qint (nomark _)) (bone (sset (i := 1) sc_law_text.nd rfl (by first | exact Or.inl rfl | exact Or.inr rfl) (qop rAdd (qv 1) qstr))) bnil)
          (bone (sset (i := 1) sc_law_text.nd rfl (by first | exact Or.inl rfl | exact Or.inr rfl) (qop rAdd (qv 1) (qTy fStr rfl T.b_str bt_str (qcons (qv 5) qnil))))))))))
      (bone (sret (qv 1))))), ?_⟩
    refine ⟨_, rfl, a, _, rfl, ea, for_enum (xs := bs.map V.ref) (fun i σ G => ∃ z2 z3 z4 z5, σ = [some (.ref a), some (.str (layT (L.take i))), z2, z3, z4, z5] ∧ Same H G)
      ⟨none, none, none, none, rfl, Same.refl _⟩ (fun i σ G _ ⟨_, _, _, _, _, s'⟩ => s' _ _ ea) ?_ ?_⟩
    · rintro i x σ G T1 hx ⟨z2, z3, z4, z5, rfl, sG⟩ hT
      rw [List.getElem?_map] at hx
      obtain ⟨b, hb, rfl⟩ := Option.map_eq_some_iff.mp hx
      obtain ⟨p, hpi, eb⟩ := hg.at hb
      have hp := hL.pgs p (List.mem_of_getElem? hpi)
      have hlen := lay_len (L := L.take i) (by rw [List.length_take]; have := hL.len; omega) fun p hp => hL.pgs p (List.mem_of_mem_take hp)
      refine ⟨T1, _, rfl, SqT.of upd_same, rfl, _, _, rfl, _, _, rfl, rfl, ?_⟩
      have s1 : Same H (upd G T1 (.tup [.int i, .ref b])) := same_upd sG (sG.free hT)
      generalize upd G T1 (.tup [.int i, .ref b]) = G1 at *
      apply join (fun σ' G' => σ' = [some (.ref a), some (.str (preT L i)), some (.int (i : Int)), some (.ref b), z4, z5] ∧ G' = G1)
      case h2 =>
        intro hj
        refine ⟨_, rfl, _, _, rfl, rfl, _, rfl, ?_⟩
        refine ite2 (fun h => ?_) (fun h => ?_)
        · have h : (0 : Int) < (i : Int) := of_decide_eq_true h
          refine ⟨_, rfl, ?_, ?_⟩
          · show (layT (L.take i)).length + 1 ≤ sizeLine
            exact big (by omega)
          · refine hj _ _ ⟨?_, rfl⟩
            unfold preT
            rw [if_neg (show ¬ i = 0 by omega), bar_is]; rfl
        · have h : ¬ (0 : Int) < (i : Int) := fun z => h (decide_eq_true z)
          have h0 : i = 0 := by omega
          refine hj _ _ ⟨?_, rfl⟩
          rw [h0]; rfl
      rintro σ' G' ⟨rfl, rfl⟩
      have hpl := pre_len hL i
      refine ⟨_, rfl, b, _, rfl, s1 _ _ eb, for_enum (xs := p.map V.int) (fun j σ G => ∃ z4 z5, σ = [some (.ref a), some (.str (preT L i ++ keysT (p.take j))), some (.int (i : Int)), some (.ref b), z4, z5] ∧ Same H G)
        ⟨z4, z5, ?_, s1⟩ (fun j σ G _ ⟨_, _, _, s'⟩ => s' _ _ eb) ?_ ?_⟩
      · rw [List.take_zero]
        show _ = [_, some (V.str (preT L i ++ Str.empty)), _, _, _, _]
        rw [PySem.Str.append_empty]
      · rintro j y σ G2 T2 hy ⟨z4, z5, rfl, sG2⟩ hT2
        rw [List.getElem?_map] at hy
        obtain ⟨k, hk, rfl⟩ := Option.map_eq_some_iff.mp hy
        have hbk := hp.2 k (List.mem_of_getElem? hk)
        have hkl := keys_len (hp.take j)
        have hnl := num_len hbk
        refine ⟨T2, _, rfl, SqT.of upd_same, rfl, _, _, rfl, _, _, rfl, rfl, ?_⟩
        have s2 : Same H (upd G2 T2 (.tup [.int j, .int k])) := same_upd sG2 (sG2.free hT2)
        generalize upd G2 T2 (.tup [.int j, .int k]) = G3 at *
        apply join (fun σ' G' => σ' = [some (.ref a), some (.str (preT L i ++ (if j = 0 then Str.empty else keysT (p.take j) ++ ⟨#[32]⟩))), some (.int (i : Int)), some (.ref b), some (.int (j : Int)), some (.int k)] ∧ G' = G3)
        case h2 =>
          intro hj
          refine ⟨_, rfl, _, _, rfl, rfl, _, rfl, ?_⟩
          refine ite2 (fun h => ?_) (fun h => ?_)
          · have h : (0 : Int) < (j : Int) := of_decide_eq_true h
            refine ⟨_, rfl, ?_, ?_⟩
            · show (preT L i ++ keysT (p.take j)).length + 1 ≤ sizeLine
              rw [PySem.Str.length_append]
              exact big (by omega)
            · refine hj _ _ ⟨?_, rfl⟩
              rw [if_neg (show ¬ j = 0 by omega), sp_is, ← PySem.Str.append_assoc]; rfl
          · have h : ¬ (0 : Int) < (j : Int) := fun z => h (decide_eq_true z)
            have h0 : j = 0 := by omega
            refine hj _ _ ⟨?_, rfl⟩
            rw [if_pos h0, h0]; rfl
        rintro σ' G' ⟨rfl, rfl⟩
        refine ⟨_, rfl, _, rfl, k, rfl, num_log hbk, ?_, ?_⟩
        · show (preT L i ++ (if j = 0 then Str.empty else keysT (p.take j) ++ ⟨#[32]⟩)).length + (num k).length ≤ sizeLine
          rw [PySem.Str.length_append]
          have : (if j = 0 then Str.empty else keysT (p.take j) ++ ⟨#[32]⟩).length ≤ 4001 := by
            split
            · show 0 ≤ _; omega
            · rw [PySem.Str.length_append]; show _ + 1 ≤ _; omega
          exact big (by omega)
        · refine ⟨some (.int (j : Int)), some (.int k), ?_, s2⟩
          rw [keys_next hk, ← PySem.Str.append_assoc]; rfl
      · rintro σ G2 ⟨z4, z5, rfl, sG2⟩
        rw [List.length_map, List.take_length, ← lay_next hpi]
        exact ⟨_, _, _, _, rfl, sG2⟩
    · rintro σ G ⟨z2, z3, z4, z5, rfl, sG⟩
      rw [List.length_map, hgl, List.take_length]
      exact ⟨_, rfl, q G sG⟩
end
end K47

namespace K47
open PySem L2 L3

theorem sum_snoc (L : List (List Int)) (p : List Int) : ((L ++ [p]).map List.length).sum = (L.map List.length).sum + p.length := by
  rw [List.map_append, List.sum_append]; simp
section
variable {P : Program} {w : World} {K : PySem.W.Frag} {mg : Str → Option Value} {base : Heap}
theorem ok_layout {f : Addr} (F : Fd K mg "_law_layout" s_law_layout f) (T : Tx K mg) (C_law_draw : Cal P w K mg base CX0 1 "_law_draw" spDraw) (C_law_key : Cal P w K mg base CX0 2 "_law_key" spKey) : Cal P w K mg base CX0 3 "_law_layout" spLayout := by
  refine F.cal sc_law_layout (fun _ _ _ _ _ _ us hl => match us, hl with | [_], _ => rfl) (fun vs H Q E h => ?_) (fun cdv A outer s H vs Q E hr h => ?_)
  · obtain ⟨p, rfl, _⟩ := h; rfl
  · obtain ⟨p, rfl, hp, q⟩ := h
    refine ⟨_, (bcons (sset (i := 1) sc_law_layout.nd rfl (by first | exact Or.inl rfl | exact Or.inr rfl) (qF C_law_draw (hr.mono (by omega)) pass0 rfl (qcons (qv 0) (qcons qint qnil))))
      (bcons (sset (i := 2) sc_law_layout.nd rfl (by first | exact Or.inl rfl | exact Or.inr rfl) (qlst qnil))
      (bcons (sfor PassesOwn.never rfl (irange1 rfl T.b_range (qcons (qF C_law_draw (hr.mono (by omega)) pass0 rfl (qcons (qv 0) (qcons (qix (xIx K) (qlst (qcons qint (qcons qint qnil))) (qTy fInt rfl T.b_int bt_int (qcons (qcmp (rEqq hr) (qF C_law_draw (hr.mono (by omega)) pass0 rfl (qcons (qv 0) (qcons qint qnil))) qint (nomark _)) qnil)) (fun _ _ => rfl)) qnil))) qnil)) (gname (i := 3) sc_law_layout.nd rfl (by first | exact Or.inl rfl | exact Or.inr rfl))
        (bcons (sset (i := 4) sc_law_layout.nd rfl (by first | exact Or.inl rfl | exact Or.inr rfl) (qB fMin2 rfl T.b_min bt_min (qcons (qv 1) (qcons (qF C_law_draw (hr.mono (by omega)) pass0 rfl (qcons (qv 0) (qcons (qix (xIx K) (qlst (qcons qint (qcons qint (qcons qint qnil)))) (qF C_law_draw (hr.mono (by omega)) pass0 rfl (qcons (qv 0) (qcons qint qnil))) (fun _ _ => rfl)) qnil))) qnil))))
        (bcons (sset (i := 1) sc_law_layout.nd rfl (by first | exact Or.inl rfl | exact Or.inr rfl) (qop rSub (qv 1) (qv 4)))
        (bone (sexpr (qBm K PySem.F.plainAttrs_list PySem.F.slot_list_append PySem.F.type_list_append mAppend (qv 2) (qcons (qcomp (sc := defScope s_law_layout) (NX := ["_law_pen_here", "_law_left", "_law_layout_here", "_law_k", "_law_size"]) ["_law_j", "_law_pen_here"] [none, some 0] rfl (irange1 rfl T.b_range (qcons (qv 4) qnil)) (fun _ _ _ => (gname (i := 0) (show (["_law_j", "_law_pen_here"] : List Str).Nodup by decide +kernel) rfl (by first | exact Or.inl rfl | exact Or.inr rfl))) (fun _ _ _ => csnil) (fun _ _ _ => (qF C_law_key (hr.mono (by omega)) pass0 rfl (qcons (qv 1) qnil))) rfl rfl (by decide +kernel)) qnil)))))))
      (bcons (sif (tcmp (rEqq hr) (qv 2) (qlst (qcons (qlst qnil) qnil)) (nomark _)) (bone (sexpr (qBm K PySem.F.plainAttrs_list PySem.F.slot_list_append PySem.F.type_list_append mAppend (qv 2) (qcons (qlst qnil) qnil)))) bnil)
      (bone (sret (qv 2))))))), ?_⟩
    refine ⟨_, rfl, p, 61, rfl, hp, by decide, by decide, fun lf H1 l0 l1 p1 s1 => ?_⟩
    refine ⟨(show 0 ≤ sizeLine by decide), fun ol H2 n2 s2 e2 _ => ?_⟩
    have hop : ol ≠ p := p1.ne n2
    have nol : H ol = none := by
      have : rm p H ol = none := s1.free n2
      rwa [rm_ne hop] at this
    have s02 := s1.trans s2
    refine ⟨_, rfl, (show 2 ≤ sizeLine by decide), fun l3 H3 n3 s3 e3 _ => ?_⟩
    refine ⟨_, rfl, p, 4, rfl, (p1.mono s2).mono s3, by decide, by decide, fun d H4 d0 d1 p4 s4 => ?_⟩
    have hlp : l3 ≠ p := (p1.mono s2).ne n3
    have e4 := rm_look s4 e3 hlp
    have eo4 := rm_look s4 (s3 _ _ e2) hop
    have s04 := rm_trans (s02.trans s3) s4
    refine .inr ⟨_, rfl, ?_⟩
    obtain ⟨c, hc1, hc2, hc3⟩ : ∃ c : Int, atI [V.int 7, V.int 61] (if (decide (d = 0)) = true then 1 else 0) = some (.int c) ∧ 0 < c ∧ c ≤ 61 := by
      by_cases h : d = 0
      · rw [decide_eq_true h]; exact ⟨61, rfl, by decide, by decide⟩
      · rw [decide_eq_false h]; exact ⟨7, rfl, by decide, by decide⟩
    refine ⟨l3, _, _, _, rfl, rfl, .inl (SqL.of e4), hc1, ?_⟩
    refine ⟨p, c, rfl, p4, hc2, by have : (61 : Int) < 10 ^ 100 := by decide +kernel
                                   omega, fun m H5 m0 m1 p5 s5 => ?_⟩
    have eo5 := rm_look s5 eo4 hop
    have s05 := rm_trans s04 s5
    clear s1 s2 s3 s4 s5 e3 e4 e2 eo4 p1 p4 n2 n3
    refine ⟨m, rfl, by omega, by omega, for_range (n := m.toNat) (fun i σ G => ∃ (lf : Int) (z3 z4 : Option V) (bs : List Addr) (L : List (List Int)), σ = [some (.ref p), some (.int lf), some (.ref ol), z3, z4] ∧ 0 ≤ lf ∧ Pen3 G p ∧ Same (rm p H) G ∧ G ol = some (.lst (bs.map V.ref)) ∧ Pgs G bs L ∧ L.length = i ∧ (∀ q ∈ L, PgOk q) ∧ ((L.map List.length).sum : Int) + lf ≤ 60 ∧ (∀ b ∈ bs, H b = none ∧ b ≠ ol ∧ b ≠ p) ∧ bs.Nodup)
      ⟨lf, none, none, [], [], rfl, l0, p5, s05, eo5, trivial, rfl, (fun q hq => nomatch hq), by show ((0 : Nat) : Int) + lf ≤ 60; omega, (fun b hb => nomatch hb), List.nodup_nil⟩ ?_ ?_⟩
    · rintro i σ G hi ⟨lf, z3, z4, bs, L, rfl, lf0, pG, sG, eG, pgG, hLl, hLp, hsum, hb, nd⟩
      refine ⟨_, rfl, _, rfl, (show 3 ≤ sizeLine by decide), fun l6 G1 n6 s6 e6 _ => ?_⟩
      have hl6 : l6 ≠ p := pG.ne n6
      refine ⟨_, rfl, p, 3, rfl, pG.mono s6, by decide, by decide, fun d G2 d0 d1 pG2 sG2 => ?_⟩
      have e62 := rm_look sG2 e6 hl6
      obtain ⟨c, hc1, hc2, hc3⟩ : ∃ c : Int, atI [V.int 4, V.int 12, V.int 61] d = some (.int c) ∧ 0 < c ∧ c ≤ 61 := by
        have : d = 0 ∨ d = 1 ∨ d = 2 := by omega
        rcases this with e | e | e <;> subst e
        · exact ⟨4, rfl, by decide, by decide⟩
        · exact ⟨12, rfl, by decide, by decide⟩
        · exact ⟨61, rfl, by decide, by decide⟩
      refine ⟨l6, _, _, _, rfl, rfl, .inl (SqL.of e62), hc1, ?_⟩
      refine ⟨p, c, rfl, pG2, hc2, by have : (61 : Int) < 10 ^ 100 := by decide +kernel
                                      omega, fun dd G3 dd0 dd1 pG3 sG3 => ?_⟩
      refine ⟨_, _, rfl, ?_⟩
      obtain ⟨sz, hsz0, hsz1, hsz⟩ : ∃ sz : Nat, (sz : Int) ≤ lf ∧ (sz : Int) ≤ 60 ∧ (if dd < lf then dd else lf) = (sz : Int) := by
        split
        · exact ⟨dd.toNat, by omega, by omega, by omega⟩
        · exact ⟨lf.toNat, by omega, by omega, by omega⟩
      rw [hsz]
      refine ⟨_, rfl, _, rfl, _, _, rfl, rfl, ?_⟩
      have sG03 : Same (rm p G) G3 := rm_trans (rm_trans (rm_same.trans s6) sG2) sG3
      have eG3 := rm_look sG03 eG hop
      have pg3 := pen_pg pgG sG03 fun b hb' => (hb b hb').2.2
      have s03 : Same (rm p H) G3 := rm_trans sG sG03
      refine ⟨_, rfl, .inl ⟨rfl, _, SqL.of eG3⟩, _, rfl, (sz : Int), rfl, by omega, by omega, fun ac hac => ?_⟩
      have hacp : ac ≠ p := pG3.ne hac
      have haco : ac ≠ ol := fun z => by rw [z, eG3] at hac; cases hac
      refine comp_range (n := sz) (fun j ys σ G' => ∃ (z : Option V) (ks : List Int), σ = [z, some (.ref p)] ∧ Pen3 G' p ∧ Same (rm p G3) G' ∧ G' ac = some (.lst ys) ∧ ys = ks.map V.int ∧ ks.length = j ∧ ∀ k ∈ ks, Bd k) ⟨none, [], rfl, ?_, rm_same.trans (same_new hac), upd_same, rfl, rfl, fun k hk => nomatch hk⟩ ?_ ?_
      · obtain ⟨m1, m2, m3, hp3⟩ := pG3
        exact ⟨m1, m2, m3, by rw [upd_ne hacp.symm]; exact hp3⟩
      · rintro j ys σ G' hj ⟨z, ks, rfl, pG', sG', aG', rfl, hkl, hkb⟩
        refine ⟨_, rfl, p, rfl, pG', fun n G4 hn pG4 sG4 => ?_⟩
        have aG4 := rm_look sG4 aG' hacp
        refine cpost aG4 (sizeBig (by rw [List.length_map]; omega)) hj ?_
        obtain ⟨m1, m2, m3, hp4⟩ := id pG4
        have hacn : rm p G3 ac = none := by rw [rm_ne hacp]; exact hac
        refine ⟨_, ks ++ [n], rfl, ⟨m1, m2, m3, by rw [upd_ne hacp.symm]; exact hp4⟩, same_upd (rm_trans sG' sG4) hacn, upd_same, by rw [List.map_append]; rfl, by rw [List.length_append, hkl]; rfl, fun k hk => ?_⟩
        rcases List.mem_append.mp hk with hk | hk
        · exact hkb k hk
        · rw [List.mem_singleton] at hk; rw [hk]; exact hn
      · rintro ys σ G' ⟨z, ks, rfl, pG', sG', aG', rfl, hkl, hkb⟩
        have eG' := rm_look sG' eG3 hop
        have hbl := pgG.len
        refine ⟨ol, _, _, rfl, rfl, eG', sizeBig (by rw [List.length_map]; omega), ?_⟩
        obtain ⟨m1, m2, m3, hp4⟩ := id pG'
        have pg' := pen_pg pg3 sG' fun b hb' => (hb b hb').2.2
        have hacn : H ac = none := by
          have : rm p H ac = none := s03.free hac
          rwa [rm_ne hacp] at this
        have nolp : rm p H ol = none := by rw [rm_ne hop]; exact nol
        refine ⟨lf - (sz : Int), _, _, bs ++ [ac], L ++ [ks], rfl, by omega, ⟨m1, m2, m3, by rw [upd_ne hop.symm]; exact hp4⟩, same_upd (rm_trans s03 sG') nolp, by rw [upd_same, List.map_append]; rfl, ?_, by rw [List.length_append, hLl]; rfl, fun q' hq' => ?_, ?_, fun b hb' => ?_, ?_⟩
        · refine (pg'.stay fun b hb' => upd_ne (hb b hb').2.1).snoc ?_
          rw [upd_ne haco]; exact aG'
        · rcases List.mem_append.mp hq' with h | h
          · exact hLp q' h
          · rw [List.mem_singleton] at h; rw [h]; exact ⟨by omega, hkb⟩
        · rw [sum_snoc]; omega
        · rcases List.mem_append.mp hb' with h | h
          · exact hb b h
          · rw [List.mem_singleton] at h; rw [h]; exact ⟨hacn, haco, hacp⟩
        · refine List.nodup_append.mpr ⟨nd, by simp, fun c hc d hd z => ?_⟩
          rw [List.mem_singleton] at hd
          obtain ⟨_, _, e⟩ := pg3.of hc
          rw [z, hd, hac] at e; cases e
    · rintro σ G ⟨lf, z3, z4, bs, L, rfl, lf0, pG, sG, eG, pgG, hLl, hLp, hsum, hb, nd⟩
      have hbl := pgG.len
      refine ⟨_, rfl, (show 0 ≤ sizeLine by decide), fun l7 G1 n7 s7 e7 _ => ?_⟩
      refine ⟨(show 1 ≤ sizeLine by decide), fun l8 G2 n8 s8 e8 _ => ?_⟩
      have s78 := s7.trans s8
      have r8 : Rep G2 (.ref l8) (Ls [[]]) := Pgs.rep (bs := [l7]) ⟨s8 _ _ e7, trivial⟩ e8
      refine ⟨Ls L, Ls [[]], (pgG.mono s78).rep (s78 _ _ eG), r8, Ls_pure _, Ls_pure _, Nat.le_trans (Ls_dep _) (by decide), _, rfl, ?_⟩
      have sG2 := sG.trans s78
      have eG2 := s78 _ _ eG
      have fresh : ∀ b ∈ bs, H b = none ∧ b ≠ ol := fun b hb' => ⟨(hb b hb').1, (hb b hb').2.1⟩
      by_cases h1 : L = [[]]
      · rw [h1, D.eqv_refl]
        refine iteT ?_
        refine ⟨_, rfl, .inl ⟨rfl, _, SqL.of eG2⟩, (show 0 ≤ sizeLine by decide), fun l9 G3 n9 s9 e9 _ => ?_⟩
        refine ⟨ol, _, _, rfl, rfl, s9 _ _ eG2, sizeBig (by rw [List.length_map, hbl, h1]; decide), ?_⟩
        have h9p : l9 ≠ p := (pG.mono s78).ne n9
        have h9o : l9 ≠ ol := fun z => by rw [z, eG2] at n9; cases n9
        have nolp : rm p H ol = none := by rw [rm_ne hop]; exact nol
        have n9H : H l9 = none := by
          have : rm p H l9 = none := sG2.free n9
          rwa [rm_ne h9p] at this
        obtain ⟨m1, m2, m3, hp4⟩ := (pG.mono s78).mono s9
        refine ⟨_, rfl, q ol (bs ++ [l9]) [[], []] _ nol ⟨m1, m2, m3, by rw [upd_ne hop.symm]; exact hp4⟩ (same_upd (sG2.trans s9) nolp) (by rw [upd_same, List.map_append]; rfl) ?_ ⟨by decide, by decide, ?_, by decide⟩ ?_ ?_⟩
        · rw [h1] at pgG
          exact (((pgG.mono s78).mono s9).stay fun b hb' => upd_ne (hb b hb').2.1).snoc (by rw [upd_ne h9o]; exact e9)
        · intro p' hp'
          have : p' = [] := by simpa using hp'
          rw [this]; exact ⟨by decide, fun k hk => nomatch hk⟩
        · intro b hb'
          rcases List.mem_append.mp hb' with h | h
          · exact fresh b h
          · rw [List.mem_singleton] at h; rw [h]; exact ⟨n9H, h9o⟩
        · refine List.nodup_append.mpr ⟨nd, by simp, fun c hc d hd z => ?_⟩
          rw [List.mem_singleton] at hd
          obtain ⟨_, _, e⟩ := (pgG.mono s78).of hc
          rw [z, hd, n9] at e; cases e
      · rw [eqv_ne (Ls_pure _) (Ls_pure _) fun z => h1 (Ls_inj z)]
        refine iteF ?_
        exact ⟨_, rfl, q ol bs L G2 nol (pG.mono s78) sG2 eG2 (pgG.mono s78) ⟨h1, by omega, hLp, by omega⟩ fresh nd⟩
end
end K47

namespace K47
open PySem L2 L3

theorem pgs_at {H : Hp} {bs : List Addr} {ps : List (List Int)} {i : Nat} {b : Addr} (g : Pgs H (bs.drop i) (ps.drop i)) (h : bs[i]? = some b) : ∃ q, ps[i]? = some q ∧ H b = some (.lst (q.map V.int)) ∧ Pgs H (bs.drop (i + 1)) (ps.drop (i + 1)) := by
  obtain ⟨hi, rfl⟩ := List.getElem?_eq_some_iff.mp h
  rw [List.drop_eq_getElem_cons hi] at g
  by_cases hp : i < ps.length
  · rw [List.drop_eq_getElem_cons hp] at g
    exact ⟨_, List.getElem?_eq_getElem hp, g.1, g.2⟩
  · rw [List.drop_of_length_le (show ps.length ≤ i by omega)] at g
    exact absurd (show False from g) id
theorem lay0 : ("" : Str) = layT [] := by decide
theorem lay2 : ("|" : Str) = layT [[], []] := by decide
def spLaw (K : PySem.W.Frag) : Sp := fun vs H Q _ => ∃ (a : Addr) (ns : List Int), vs = [.ref a] ∧ SqL K H a (ns.map V.int) ∧ ns.length ≤ 63 ∧ ∀ H', Q (.bl true) H'
section
variable {P : Program} {w : World} {K : PySem.W.Frag} {mg : Str → Option Value} {base : Heap}
theorem ok_law {f : Addr} {fd : FuncData} (F : Fun K "law" "law" s_law f fd) (T : Tx K mg) (C_law_pen : Cal P w K mg base CX0 1 "_law_pen" (spPen K)) (C_law_layout : Cal P w K mg base CX0 3 "_law_layout" spLayout) (C_law_text : Cal P w K mg base CX0 1 "_law_text" spText)
    (C_show_layout : Cal P w K mg base CX0 2 "show_layout" spShL) (C_read_layout : Cal P w K mg base CX0 4 "read_layout" spLy) : FnOk P w K mg base CX0 5 f fd ["_law_script"] (spLaw K) := by
  refine okQ F sc_law (fun vs H Q E h => ?_) (fun cdv A outer s H vs Q E hr h => ?_)
  · obtain ⟨a, ns, rfl, _⟩ := h; rfl
  · obtain ⟨a, ns, rfl, ha, hl, q⟩ := h
    refine ⟨_, (bcons (sfor PassesOwn.never rfl (irange1 rfl T.b_range (qcons qint qnil)) (gname (i := 1) sc_law.nd rfl (by first | exact Or.inl rfl | exact Or.inr rfl))
        (bcons (sset (i := 2) sc_law.nd rfl (by first | exact Or.inl rfl | exact Or.inr rfl) (qF C_law_layout (hr.mono (by omega)) pass0 rfl (qcons (qF C_law_pen (hr.mono (by omega)) pass0 rfl (qcons (qv 0) (qcons (qv 1) qnil))) qnil)))
        (bcons (sset (i := 3) sc_law.nd rfl (by first | exact Or.inl rfl | exact Or.inr rfl) (qF C_law_text (hr.mono (by omega)) pass0 rfl (qcons (qv 2) qnil)))
        (bcons (ssetC (i := 4) (sc := defScope s_law) (NX := ["_law_script", "_law_k", "_law_layout_here", "_law_due", "_law_handed", "_law_told", "_law_page"]) ["_law_page"] [none] rfl sc_law.nd rfl rfl (iseq K (qv 2)) (fun _ _ _ => (gname (i := 0) (show (["_law_page"] : List Str).Nodup by decide +kernel) rfl (by first | exact Or.inl rfl | exact Or.inr rfl))) (fun _ _ _ => csnil) (fun _ _ _ => (qTy (fList K) rfl T.b_list bt_list (qcons (qv 0) qnil))) rfl rfl (by decide +kernel) rfl)
        (bcons (sif (QW.tst (wor (tcmp (rNeq hr) (qF C_show_layout (hr.mono (by omega)) pass0 rfl (qcons (qv 4) qnil)) (qv 3) (nomark _)) (wor1 (tcmp (rNeq hr) (qv 4) (qv 2) (nomark _))))) (bone (sret qbl)) bnil)
        (bcons (sset (i := 5) sc_law.nd rfl (by first | exact Or.inl rfl | exact Or.inr rfl) (qF C_read_layout (hr.mono (by omega)) pass0 rfl (qcons (qv 3) qnil)))
        (bcons (sif (QW.tst (wor (tnot (ttru K (qB (fIsi K) rfl T.b_isinstance bt_isinstance (qcons (qv 5) (qcons (qty rfl T.b_list bt_list) qnil))) (fun _ => rfl))) (wor1 (tcmp (rNeq hr) (qv 5) (qv 2) (nomark _))))) (bone (sret qbl)) bnil)
        (bcons (sfor PassesOwn.never rfl (iseq K (qv 5)) (gname (i := 6) sc_law.nd rfl (by first | exact Or.inl rfl | exact Or.inr rfl))
          (bone (sexpr (qBm K PySem.F.plainAttrs_list PySem.F.slot_list_append PySem.F.type_list_append mAppend (qv 6) (qcons qnon qnil)))))
        (bcons (sexpr (qBm K PySem.F.plainAttrs_list PySem.F.slot_list_append PySem.F.type_list_append mAppend (qv 5) (qcons (qlst qnil) qnil)))
        (bone (sif (QW.tst (wor (tcmp (rNeq hr) (qF C_read_layout (hr.mono (by omega)) pass0 rfl (qcons (qv 3) qnil)) (qv 2) (nomark _)) (wor1 (tcmp (rNeq hr) (qF C_show_layout (hr.mono (by omega)) pass0 rfl (qcons (qv 4) qnil)) (qv 3) (nomark _))))) (bone (sret qbl)) bnil)))))))))))
      (bone (sret (qand K (qcmp (rEqq hr) (qF C_read_layout (hr.mono (by omega)) pass0 rfl (qcons qstr qnil)) (qlst qnil) (nomark _)) (qand K (qcmp (rEqq hr) (qF C_read_layout (hr.mono (by omega)) pass0 rfl (qcons qstr qnil)) (qlst (qcons (qlst qnil) (qcons (qlst qnil) qnil))) (nomark _)) (qone (qcmp (rEqq hr) (qF C_show_layout (hr.mono (by omega)) pass0 rfl (qcons (qlst qnil) qnil)) qstr (nomark _)))))))), ?_⟩
    refine ⟨6, rfl, by decide, by decide, for_range (n := 6) (fun i σ G => ∃ (z1 z2 z3 z4 z5 z6 : Option V), σ = [some (.ref a), z1, z2, z3, z4, z5, z6] ∧ Same H G)
      ⟨none, none, none, none, none, none, rfl, Same.refl _⟩ ?_ ?_⟩
    · rintro k σ G hk ⟨z1, z2, z3, z4, z5, z6, rfl, sG⟩
      refine ⟨_, rfl, _, rfl, a, 0 + (k : Int), ns, rfl, sG.seq ha, hl, by omega, by omega, fun p G1 n1 s1 p1 => ?_⟩
      refine ⟨p, rfl, p1, fun la bs L G2 n2 p2 s2 e2 pg2 hL hb2 nd2 => ?_⟩
      have s12 : Same G G2 := (rm_of s1 n1).trans s2
      have s02 := sG.trans s12
      refine ⟨_, rfl, la, bs, L, rfl, e2, pg2, hL, fun G3 s3 => ?_⟩
      have e3 := s3 _ _ e2
      have pg3 := pg2.mono s3
      have hbl := pg2.len
      have hLl := hL.len
      refine ⟨_, rfl, la, rfl, .inl ⟨⟨_, SqL.of e3⟩, fun ac hac => ?_⟩⟩
      refine comp_list (xs := bs.map V.ref) (fun i ys σ G' => ∃ (z : Option V) (cs : List Addr), σ = [z] ∧ Same G3 G' ∧ G' ac = some (.lst ys) ∧ ys = cs.map V.ref ∧ Pgs G' cs (L.take i) ∧ ∀ b ∈ cs, b ≠ ac) ⟨none, [], rfl, same_new hac, upd_same, rfl, trivial, fun b hb => nomatch hb⟩ (fun i ys σ G' ⟨_, _, _, s', _⟩ => SqL.of (s' _ _ e3)) ?_ ?_
      · rintro i ys y σ G' hy hi ⟨z, cs, rfl, sG', aG', rfl, pG', hcs⟩
        rw [List.getElem?_map] at hy
        obtain ⟨b, hb, rfl⟩ := Option.map_eq_some_iff.mp hy
        obtain ⟨pp, hpi, eb⟩ := pg3.at hb
        have hcl := pG'.len
        rw [List.length_take] at hcl
        refine ⟨_, rfl, b, _, rfl, .inl (SqL.of (sG' _ _ eb)), fun r4 G4 n4 s4 e4 _ => ?_⟩
        have hra : r4 ≠ ac := fun z => by rw [z, aG'] at n4; cases n4
        refine cpost (s4 _ _ aG') (sizeBig (by rw [List.length_map]; omega)) hi ?_
        refine ⟨_, cs ++ [r4], rfl, same_upd (sG'.trans s4) hac, upd_same, by rw [List.map_append]; rfl, ?_, fun c hc => ?_⟩
        · rw [List.take_add_one, hpi]
          exact ((pG'.mono s4).stay fun c hc => upd_ne (hcs c hc)).snoc (by rw [upd_ne hra]; exact e4)
        · rcases List.mem_append.mp hc with h | h
          · exact hcs c h
          · rw [List.mem_singleton] at h; rw [h]; exact hra
      rintro ys σ G4 ⟨z, cs, rfl, sG4, aG4, rfl, pG4, _⟩
      rw [List.length_map, hbl, List.take_length] at pG4
      have e4 := sG4 _ _ e3
      have pl4 := pg3.mono sG4
      refine ⟨_, rfl, ac, cs, L, rfl, aG4, pG4, hL.len, hL.pgs, fun G5 s5 => ?_⟩
      refine ⟨_, rfl, _, rfl, ?_⟩
      rw [decide_eq_true rfl]
      refine iteF ?_
      refine ⟨_, rfl, _, rfl, ne_same (e := Ls L) ((pG4.mono s5).rep (s5 _ _ aG4)) ((pl4.mono s5).rep (s5 _ _ e4)) (Ls_pure _) (Ls_dep _) ?_⟩
      refine ⟨_, rfl, ?_⟩
      refine iteF ?_
      have s45 := s5
      refine ⟨_, rfl, L, rfl, hL.one, hL.len, hL.pgs, hL.sum, fun r6 G6 ds n6 s6 e6 pg6 hb6 nd6 => ?_⟩
      have e56 : G6 la = some (.lst (bs.map V.ref)) := s6 _ _ (s5 _ _ e4)
      have pl6 : Pgs G6 bs L := (pl4.mono s5).mono s6
      refine ⟨_, rfl, .ref r6, _, _, _, rfl, (pg6.rep e6).ty, kit_list K _, _, rfl, ?_⟩
      refine iteF ?_
      refine ⟨_, rfl, _, rfl, ne_same (e := Ls L) (pg6.rep e6) (pl6.rep e56) (Ls_pure _) (Ls_dep _) ?_⟩
      refine ⟨_, rfl, ?_⟩
      refine iteF ?_
      have hdl := pg6.len
      refine ⟨_, rfl, r6, rfl, .inl ⟨⟨_, SqL.of e6⟩, for_list (xs := ds.map V.ref) (fun i σ G' => ∃ (z : Option V), σ = [some (.ref a), some (.int (0 + (k : Int))), some (.ref la), some (.str (layT L)), some (.ref ac), some (.ref r6), z] ∧ Same G5 G' ∧ G' r6 = some (.lst (ds.map V.ref)) ∧ Pgs G' (ds.drop i) (L.drop i))
        ⟨_, rfl, s6, e6, pg6⟩ (fun i σ G' _ ⟨_, _, _, e', _⟩ => SqL.of e') ?_ ?_⟩⟩
      · rintro i y σ G' hy ⟨z, rfl, sG', er', pg'⟩
        rw [List.getElem?_map] at hy
        obtain ⟨b, hb, rfl⟩ := Option.map_eq_some_iff.mp hy
        have hbm := List.mem_of_getElem? hb
        obtain ⟨qi, hqi, eb, pgn⟩ := pgs_at pg' hb
        have hql := (hL.pgs qi (List.mem_of_getElem? hqi)).1
        refine ⟨_, rfl, .inl ⟨rfl, _, SqL.of eb⟩, b, _, _, rfl, rfl, eb, sizeBig (by rw [List.length_map]; omega), ?_⟩
        have hbr := (hb6 b hbm).2
        have hbnot : ∀ x ∈ ds.drop (i + 1), x ≠ b := by
          obtain ⟨hi, rfl⟩ := List.getElem?_eq_some_iff.mp hb
          have hnd := nd6.sublist (List.drop_sublist i ds)
          rw [List.drop_eq_getElem_cons hi] at hnd
          intro x hx z
          exact (List.nodup_cons.mp hnd).1 (z ▸ hx)
        exact ⟨_, rfl, same_upd sG' (hb6 b hbm).1, by rw [upd_ne (Ne.symm hbr)]; exact er', pgn.stay fun x hx => upd_ne (hbnot x hx)⟩
      · rintro σ G7 ⟨z, rfl, s7, er7, _⟩
        refine ⟨_, rfl, .inl ⟨rfl, _, SqL.of er7⟩, (show 0 ≤ sizeLine by decide), fun x0 G8 n8 s8 e8 _ => ?_⟩
        have er8 := s8 _ _ er7
        refine ⟨r6, _, _, rfl, rfl, er8, sizeBig (by rw [List.length_map]; omega), ?_⟩
        have s58 : Same G5 (upd G8 r6 (.lst (ds.map V.ref ++ [.ref x0]))) := same_upd (s7.trans s8) n6
        generalize upd G8 r6 (.lst (ds.map V.ref ++ [.ref x0])) = G9 at s58 ⊢
        have s49 := s5.trans s58
        refine ⟨_, rfl, L, rfl, hL.one, hL.len, hL.pgs, hL.sum, fun r10 G10 es n10 s10 e10 pg10 _ _ => ?_⟩
        have s410 := s49.trans s10
        refine ⟨_, rfl, ne_same (e := Ls L) (pg10.rep e10) ((pl4.mono s410).rep (s410 _ _ e4)) (Ls_pure _) (Ls_dep _) ?_⟩
        refine ⟨_, rfl, ?_⟩
        refine iteF ?_
        refine ⟨_, rfl, ac, cs, L, rfl, s410 _ _ aG4, pG4.mono s410, hL.len, hL.pgs, fun G11 s11 => ?_⟩
        refine ⟨_, rfl, _, rfl, ?_⟩
        rw [decide_eq_true rfl]
        refine iteF ?_
        exact ⟨_, _, _, _, _, _, rfl, (s02.trans s3).trans ((sG4.trans s410).trans s11)⟩
    · rintro σ G ⟨z1, z2, z3, z4, z5, z6, rfl, sG⟩
      rw [lay2]
      rw [lay0]
      refine ⟨[], rfl, by decide, by decide, (fun p hp => nomatch hp), by decide, fun r1 G1 bs1 n1 s1 e1 pg1 _ _ => ?_⟩
      refine ⟨(show 0 ≤ sizeLine by decide), fun l2 G2 n2 s2 e2 _ => ?_⟩
      refine eq_same (e := Ls []) ((pg1.mono s2).rep (s2 _ _ e1)) (Pgs.rep (bs := []) trivial e2) (Ls_pure _) (Ls_dep _) ?_
      refine ⟨_, rfl, ?_⟩
      refine iteT ?_
      refine ⟨[[], []], rfl, by decide, by decide, (fun p hp => ?_), by decide, fun r3 G3 bs3 n3 s3 e3 pg3 _ _ => ?_⟩
      · have : p = [] := by simpa using hp
        rw [this]; exact ⟨by decide, fun k hk => nomatch hk⟩
      refine ⟨(show 0 ≤ sizeLine by decide), fun l4 G4 n4 s4 e4 _ => ?_⟩
      refine ⟨(show 0 ≤ sizeLine by decide), fun l5 G5 n5 s5 e5 _ => ?_⟩
      refine ⟨(show 2 ≤ sizeLine by decide), fun l6 G6 n6 s6 e6 _ => ?_⟩
      have s36 := (s4.trans s5).trans s6
      refine eq_same (e := Ls [[], []]) ((pg3.mono s36).rep (s36 _ _ e3)) (Pgs.rep (bs := [l4, l5]) ⟨s6 _ _ (s5 _ _ e4), s6 _ _ e5, trivial⟩ e6) (Ls_pure _) (Ls_dep _) ?_
      refine ⟨_, rfl, ?_⟩
      refine iteT ?_
      refine ⟨(show 0 ≤ sizeLine by decide), fun l7 G7 n7 s7 e7 _ => ?_⟩
      refine ⟨l7, [], [], rfl, e7, trivial, by decide, (fun p hp => nomatch hp), fun G8 s8 => ?_⟩
      show Q (.bl (decide (layT [] = layT []))) G8
      rw [decide_eq_true rfl]
      exact q G8
end
end K47

namespace K47
open PySem L2 L3
/-! ### what the top has written, and the head -/
theorem all_mk {l : PySem.W.OpenLaw} {w : World} {K : PySem.W.Frag} {h : Heap} {mg : Str → Option Value} {fa : Addr} (X : K.In h) (G : h.Ns mainGlobals mg) (hfa : mg "law" = some (.ref fa))
    {f0 : Addr} {oc0 kV0 dc0 pm0 cd0 ct0 : Value} {od0 an0 : Option Addr} {sl0 : Array (Option Value)}
    {f1 : Addr} {oc1 kV1 dc1 pm1 cd1 ct1 : Value} {od1 an1 : Option Addr} {sl1 : Array (Option Value)}
    {f2 : Addr} {oc2 kV2 dc2 pm2 cd2 ct2 : Value} {od2 an2 : Option Addr} {sl2 : Array (Option Value)}
    {f3 : Addr} {oc3 kV3 dc3 pm3 cd3 ct3 : Value} {od3 an3 : Option Addr} {sl3 : Array (Option Value)}
    {f4 : Addr} {oc4 kV4 dc4 pm4 cd4 ct4 : Value} {od4 an4 : Option Addr} {sl4 : Array (Option Value)}
    {f5 : Addr} {oc5 kV5 dc5 pm5 cd5 ct5 : Value} {od5 an5 : Option Addr} {sl5 : Array (Option Value)}
    {f6 : Addr} {oc6 kV6 dc6 pm6 cd6 ct6 : Value} {od6 an6 : Option Addr} {sl6 : Array (Option Value)}
    {f7 : Addr} {oc7 kV7 dc7 pm7 cd7 ct7 : Value} {od7 an7 : Option Addr} {sl7 : Array (Option Value)}
    {f8 : Addr} {oc8 kV8 dc8 pm8 cd8 ct8 : Value} {od8 an8 : Option Addr} {sl8 : Array (Option Value)}
    {f9 : Addr} {oc9 kV9 dc9 pm9 cd9 ct9 : Value} {od9 an9 : Option Addr} {sl9 : Array (Option Value)}
    {f10 : Addr} {oc10 kV10 dc10 pm10 cd10 ct10 : Value} {od10 an10 : Option Addr} {sl10 : Array (Option Value)}
    {f11 : Addr} {oc11 kV11 dc11 pm11 cd11 ct11 : Value} {od11 an11 : Option Addr} {sl11 : Array (Option Value)}
    (a0 : PySem.W.nsIn K mainGlobals "show_keys" = some (some (.ref f0))) (l0 : K.lookup f0 = some ⟨oc0, od0, .func (PySem.W.fnOf "show_keys" "show_keys" (defArgs s_show_keys) (defBody s_show_keys) (defScope s_show_keys) .none kV0 dc0 pm0 an0 cd0 ct0), sl0⟩) (c0 : PySem.W.codeIn K cd0 "show_keys" = true) (k0 : PySem.W.keepIn K (.ref f0) = true)
    (a1 : PySem.W.nsIn K mainGlobals "show_layout" = some (some (.ref f1))) (l1 : K.lookup f1 = some ⟨oc1, od1, .func (PySem.W.fnOf "show_layout" "show_layout" (defArgs s_show_layout) (defBody s_show_layout) (defScope s_show_layout) .none kV1 dc1 pm1 an1 cd1 ct1), sl1⟩) (c1 : PySem.W.codeIn K cd1 "show_layout" = true) (k1 : PySem.W.keepIn K (.ref f1) = true)
    (a2 : PySem.W.nsIn K mainGlobals "has_figures_alone" = some (some (.ref f2))) (l2 : K.lookup f2 = some ⟨oc2, od2, .func (PySem.W.fnOf "has_figures_alone" "has_figures_alone" (defArgs s_has_figures_alone) (defBody s_has_figures_alone) (defScope s_has_figures_alone) .none kV2 dc2 pm2 an2 cd2 ct2), sl2⟩) (c2 : PySem.W.codeIn K cd2 "has_figures_alone" = true) (k2 : PySem.W.keepIn K (.ref f2) = true)
    (a3 : PySem.W.nsIn K mainGlobals "read_number" = some (some (.ref f3))) (l3 : K.lookup f3 = some ⟨oc3, od3, .func (PySem.W.fnOf "read_number" "read_number" (defArgs s_read_number) (defBody s_read_number) (defScope s_read_number) .none kV3 dc3 pm3 an3 cd3 ct3), sl3⟩) (c3 : PySem.W.codeIn K cd3 "read_number" = true) (k3 : PySem.W.keepIn K (.ref f3) = true)
    (a4 : PySem.W.nsIn K mainGlobals "read_page" = some (some (.ref f4))) (l4 : K.lookup f4 = some ⟨oc4, od4, .func (PySem.W.fnOf "read_page" "read_page" (defArgs s_read_page) (defBody s_read_page) (defScope s_read_page) .none kV4 dc4 pm4 an4 cd4 ct4), sl4⟩) (c4 : PySem.W.codeIn K cd4 "read_page" = true) (k4 : PySem.W.keepIn K (.ref f4) = true)
    (a5 : PySem.W.nsIn K mainGlobals "read_layout" = some (some (.ref f5))) (l5 : K.lookup f5 = some ⟨oc5, od5, .func (PySem.W.fnOf "read_layout" "read_layout" (defArgs s_read_layout) (defBody s_read_layout) (defScope s_read_layout) .none kV5 dc5 pm5 an5 cd5 ct5), sl5⟩) (c5 : PySem.W.codeIn K cd5 "read_layout" = true) (k5 : PySem.W.keepIn K (.ref f5) = true)
    (a6 : PySem.W.nsIn K mainGlobals "_law_pen" = some (some (.ref f6))) (l6 : K.lookup f6 = some ⟨oc6, od6, .func (PySem.W.fnOf "_law_pen" "_law_pen" (defArgs s_law_pen) (defBody s_law_pen) (defScope s_law_pen) .none kV6 dc6 pm6 an6 cd6 ct6), sl6⟩) (c6 : PySem.W.codeIn K cd6 "_law_pen" = true) (k6 : PySem.W.keepIn K (.ref f6) = true)
    (a7 : PySem.W.nsIn K mainGlobals "_law_draw" = some (some (.ref f7))) (l7 : K.lookup f7 = some ⟨oc7, od7, .func (PySem.W.fnOf "_law_draw" "_law_draw" (defArgs s_law_draw) (defBody s_law_draw) (defScope s_law_draw) .none kV7 dc7 pm7 an7 cd7 ct7), sl7⟩) (c7 : PySem.W.codeIn K cd7 "_law_draw" = true) (k7 : PySem.W.keepIn K (.ref f7) = true)
    (a8 : PySem.W.nsIn K mainGlobals "_law_key" = some (some (.ref f8))) (l8 : K.lookup f8 = some ⟨oc8, od8, .func (PySem.W.fnOf "_law_key" "_law_key" (defArgs s_law_key) (defBody s_law_key) (defScope s_law_key) .none kV8 dc8 pm8 an8 cd8 ct8), sl8⟩) (c8 : PySem.W.codeIn K cd8 "_law_key" = true) (k8 : PySem.W.keepIn K (.ref f8) = true)
    (a9 : PySem.W.nsIn K mainGlobals "_law_layout" = some (some (.ref f9))) (l9 : K.lookup f9 = some ⟨oc9, od9, .func (PySem.W.fnOf "_law_layout" "_law_layout" (defArgs s_law_layout) (defBody s_law_layout) (defScope s_law_layout) .none kV9 dc9 pm9 an9 cd9 ct9), sl9⟩) (c9 : PySem.W.codeIn K cd9 "_law_layout" = true) (k9 : PySem.W.keepIn K (.ref f9) = true)
    (a10 : PySem.W.nsIn K mainGlobals "_law_text" = some (some (.ref f10))) (l10 : K.lookup f10 = some ⟨oc10, od10, .func (PySem.W.fnOf "_law_text" "_law_text" (defArgs s_law_text) (defBody s_law_text) (defScope s_law_text) .none kV10 dc10 pm10 an10 cd10 ct10), sl10⟩) (c10 : PySem.W.codeIn K cd10 "_law_text" = true) (k10 : PySem.W.keepIn K (.ref f10) = true)
    (a11 : PySem.W.nsIn K mainGlobals "law" = some (some (.ref f11))) (l11 : K.lookup f11 = some ⟨oc11, od11, .func (PySem.W.fnOf "law" "law" (defArgs s_law) (defBody s_law) (defScope s_law) .none kV11 dc11 pm11 an11 cd11 ct11), sl11⟩) (c11 : PySem.W.codeIn K cd11 "law" = true) (k11 : PySem.W.keepIn K (.ref f11) = true)
    (z_all : PySem.W.nsIn K mainGlobals "all" = some none) (z_enumerate : PySem.W.nsIn K mainGlobals "enumerate" = some none) (z_int : PySem.W.nsIn K mainGlobals "int" = some none) (z_isinstance : PySem.W.nsIn K mainGlobals "isinstance" = some none) (z_len : PySem.W.nsIn K mainGlobals "len" = some none) (z_list : PySem.W.nsIn K mainGlobals "list" = some none) (z_min : PySem.W.nsIn K mainGlobals "min" = some none) (z_range : PySem.W.nsIn K mainGlobals "range" = some none) (z_str : PySem.W.nsIn K mainGlobals "str" = some none) (z_sum : PySem.W.nsIn K mainGlobals "sum" = some none) {tk_FIGURES : Tok} (z_FIGURES : PySem.W.nsIn K mainGlobals "FIGURES" = some (some (.str "0123456789" tk_FIGURES))) {tk_MOST_FIGURES : Tok} (z_MOST_FIGURES : PySem.W.nsIn K mainGlobals "MOST_FIGURES" = some (some (.int 60 tk_MOST_FIGURES))) {tk_MOST_KEYS : Tok} (z_MOST_KEYS : PySem.W.nsIn K mainGlobals "MOST_KEYS" = some (some (.int 60 tk_MOST_KEYS))) {tk_MOST_PAGES : Tok} (z_MOST_PAGES : PySem.W.nsIn K mainGlobals "MOST_PAGES" = some (some (.int 60 tk_MOST_PAGES))) :
    ∃ fd : FuncData, (∀ (s : Shared) (v : Value), BindsTo s fd ⟨[v], []⟩ [("_law_script", v)]) ∧ ∀ base : Heap, K.In base → base.Ns mainGlobals mg → FnOk l.prog w K mg base CX0 5 fa fd ["_law_script"] (spLaw K) := by
  have e := hfa.symm.trans (PySem.W.mg_of X G a11)
  cases e
  have F_show_keys : Fd K mg "show_keys" s_show_keys f0 := fd_mk X G a0 l0 c0 k0
  have F_show_layout : Fd K mg "show_layout" s_show_layout f1 := fd_mk X G a1 l1 c1 k1
  have F_has_figures_alone : Fd K mg "has_figures_alone" s_has_figures_alone f2 := fd_mk X G a2 l2 c2 k2
  have F_read_number : Fd K mg "read_number" s_read_number f3 := fd_mk X G a3 l3 c3 k3
  have F_read_page : Fd K mg "read_page" s_read_page f4 := fd_mk X G a4 l4 c4 k4
  have F_read_layout : Fd K mg "read_layout" s_read_layout f5 := fd_mk X G a5 l5 c5 k5
  have F_law_pen : Fd K mg "_law_pen" s_law_pen f6 := fd_mk X G a6 l6 c6 k6
  have F_law_draw : Fd K mg "_law_draw" s_law_draw f7 := fd_mk X G a7 l7 c7 k7
  have F_law_key : Fd K mg "_law_key" s_law_key f8 := fd_mk X G a8 l8 c8 k8
  have F_law_layout : Fd K mg "_law_layout" s_law_layout f9 := fd_mk X G a9 l9 c9 k9
  have F_law_text : Fd K mg "_law_text" s_law_text f10 := fd_mk X G a10 l10 c10 k10
  have T : Tx K mg := ⟨PySem.W.mg_none_of X G z_all, PySem.W.mg_none_of X G z_enumerate, PySem.W.mg_none_of X G z_int, PySem.W.mg_none_of X G z_isinstance, PySem.W.mg_none_of X G z_len, PySem.W.mg_none_of X G z_list, PySem.W.mg_none_of X G z_min, PySem.W.mg_none_of X G z_range, PySem.W.mg_none_of X G z_str, PySem.W.mg_none_of X G z_sum, ⟨_, PySem.W.mg_of X G z_FIGURES⟩, ⟨_, PySem.W.mg_of X G z_MOST_FIGURES⟩, ⟨_, PySem.W.mg_of X G z_MOST_KEYS⟩, ⟨_, PySem.W.mg_of X G z_MOST_PAGES⟩⟩
  refine ⟨PySem.W.fnOf "law" "law" (defArgs s_law) (defBody s_law) (defScope s_law) .none kV11 dc11 pm11 an11 cd11 ct11, fun s v => .of_eq rfl, fun base _ _ => ?_⟩
  have C_draw : Cal l.prog w K mg base CX0 1 "_law_draw" spDraw := ok_draw F_law_draw T
  have C_num := ok_num F_read_number T (ok_fig (P := l.prog) (w := w) (base := base) F_has_figures_alone T)
  exact ok_law (fun_mk l11 c11 k11) T (ok_pen F_law_pen T) (ok_layout F_law_layout T C_draw (ok_key F_law_key T C_draw)) (ok_text F_law_text T) (ok_shl F_show_layout T (ok_shk F_show_keys T)) (ok_ly F_read_layout T (ok_pg F_read_page T C_num))
theorem walk {l : PySem.W.OpenLaw} {q : Program} {loose : List Str} {XP : (Str → Option Value) → Heap → Prop} {YP : World → Heap → Prop} {d : DefRec} {K : Params → PySem.W.Frag} (hn : l.most = some 63) (hdf : d.params.defaults = [])
    (hY : ∀ (w : World) (h : Heap), YP w h → (K w.params).In h)
    (F : ∀ (w : World) (mg : Str → Option Value) (fa : Addr) (h : Heap), (K w.params).In h → h.Ns mainGlobals mg → mg d.name = some (.ref fa) →
      ∃ fd : FuncData, (∀ (s : Shared) (u : Value), BindsTo s fd ⟨[u], []⟩ [("_law_script", u)]) ∧ ∀ base : Heap, (K w.params).In base → base.Ns mainGlobals mg → FnOk l.prog w (K w.params) mg base CX0 5 fa fd ["_law_script"] (spLaw (K w.params))) :
    PySem.W.WalkO q loose XP YP l.row.toRowW d [] (fun f vs => PySem.call f vs) :=
  L2.walk_of (n := 63) (k := 5) (x := "_law_script") (CX := fun _ => CX0) (sp := fun w => spLaw (K w.params)) hn (by decide) hdf ⟨rfl, by decide, by decide⟩ hY F (fun _ _ a ns hl _ hS => ⟨a, ns, rfl, hS, hl, fun _ => rfl⟩) fun _ _ _ _ _ z => z
end K47
open PySem PySem.W PyProof.Rows
set_option maxRecDepth 100000 in
set_option maxHeartbeats 0 in
theorem PySem.Challenge.cw_leafpages_k47_layouts_written_holds : PySem.Challenge.rw_leafpages_k47_layouts_written.Holds := by
  w_on; o_law; k_head; (case hw => w_witness2)
  k_fill
  refine K47.walk (l := PySem.Challenge.rw_leafpages_k47_layouts_written) rfl rfl (fun w h Y => PySem.W.kIn_of Y) ?F
  case F =>
    intro w mg fa h KX G hmg
    refine' K47.all_mk KX G hmg ?a0 ?l0 ?c0 ?k0 ?a1 ?l1 ?c1 ?k1 ?a2 ?l2 ?c2 ?k2 ?a3 ?l3 ?c3 ?k3 ?a4 ?l4 ?c4 ?k4 ?a5 ?l5 ?c5 ?k5 ?a6 ?l6 ?c6 ?k6 ?a7 ?l7 ?c7 ?k7 ?a8 ?l8 ?c8 ?k8 ?a9 ?l9 ?c9 ?k9 ?a10 ?l10 ?c10 ?k10 ?a11 ?l11 ?c11 ?k11 ?z_all ?z_enumerate ?z_int ?z_isinstance ?z_len ?z_list ?z_min ?z_range ?z_str ?z_sum ?z_FIGURES ?z_MOST_FIGURES ?z_MOST_KEYS ?z_MOST_PAGES
    (case a0 => k_is)
    (case l0 => k_is)
    (case c0 => k_is)
    (case k0 => k_is)
    (case a1 => k_is)
    (case l1 => k_is)
    (case c1 => k_is)
    (case k1 => k_is)
    (case a2 => k_is)
    (case l2 => k_is)
    (case c2 => k_is)
    (case k2 => k_is)
    (case a3 => k_is)
    (case l3 => k_is)
    (case c3 => k_is)
    (case k3 => k_is)
    (case a4 => k_is)
    (case l4 => k_is)
    (case c4 => k_is)
    (case k4 => k_is)
    (case a5 => k_is)
    (case l5 => k_is)
    (case c5 => k_is)
    (case k5 => k_is)
    (case a6 => k_is)
    (case l6 => k_is)
    (case c6 => k_is)
    (case k6 => k_is)
    (case a7 => k_is)
    (case l7 => k_is)
    (case c7 => k_is)
    (case k7 => k_is)
    (case a8 => k_is)
    (case l8 => k_is)
    (case c8 => k_is)
    (case k8 => k_is)
    (case a9 => k_is)
    (case l9 => k_is)
    (case c9 => k_is)
    (case k9 => k_is)
    (case a10 => k_is)
    (case l10 => k_is)
    (case c10 => k_is)
    (case k10 => k_is)
    (case a11 => k_is)
    (case l11 => k_is)
    (case c11 => k_is)
    (case k11 => k_is)
    (case z_all => k_is)
    (case z_enumerate => k_is)
    (case z_int => k_is)
    (case z_isinstance => k_is)
    (case z_len => k_is)
    (case z_list => k_is)
    (case z_min => k_is)
    (case z_range => k_is)
    (case z_str => k_is)
    (case z_sum => k_is)
    (case z_FIGURES => k_is)
    (case z_MOST_FIGURES => k_is)
    (case z_MOST_KEYS => k_is)
    (case z_MOST_PAGES => k_is)
