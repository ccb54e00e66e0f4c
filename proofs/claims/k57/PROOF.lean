import PyProof.Rows.All
import Wide.All
import OpenK.AllK
import Wide.FinOn
import Lean
import PyProof.EqAt
import PyProof.EqKinds
import PyProof.TupleCall
import PyProof.NeKinds
import PyProof.Rows.SumAny
import PyProof.Rows.SortWalk
import PyProof.WalksEnum
import PyProof.AttrMissHeap
import KE.KDictOf
import PyProof.DictWalks
import KE.KRevIter
import PyProof.Rows.SeqMore2
import Wide.Seal
import KE.KDictList
import PyProof.ZipIter
import PyProof.Rows.CallKwBuiltin
import PyProof.WalkInts
import PyProof.DictValues
import KE.KSortTup
import PyProof.TupleIter
import PyProof.ListMulRoad
import PyProof.TupleOps
import PyProof.FactsAll.tuple
import PyProof.Rows.SetFrom
import PyProof.SetRoads
import PySem.Challenge.RW_leafpages_k57_whole_a_tree_grown
set_option Elab.async false
set_option linter.all false
set_option maxRecDepth 100000
set_option maxHeartbeats 4000000
namespace L2
open PySem PySem.Spec PyProof.Rows
abbrev Key := Sum Int Str
def keyIs : Key → Value → Bool
  | .inl k, v => Value.isInt k v
  | .inr x, v => Value.isStrOf x v
def keyH (w : World) : Key → Int
  | .inl k => hashInt k
  | .inr x => hashStr w x
theorem keyIs_shape : ∀ {k : Key} {v : Value}, keyIs k v = true → (∃ i t, k = Sum.inl i ∧ v = Value.int i t) ∨ (∃ x t, k = Sum.inr x ∧ v = Value.str x t)
  | .inl i, v, h => by
    obtain ⟨t, e⟩ := Value.isInt_shape (k := i) (v := v) h
    exact .inl ⟨i, t, rfl, e⟩
  | .inr x, v, h => by
    obtain ⟨t, e⟩ := Value.isStrOf_shape (x := x) (v := v) h
    exact .inr ⟨x, t, rfl, e⟩
theorem keyIs_int (i : Int) (t : Tok) : keyIs (.inl i) (.int i t) = true := by simp [keyIs, Value.isInt]
theorem keyIs_str (x : Str) (t : Tok) : keyIs (.inr x) (.str x t) = true := by simp [keyIs, Value.isStrOf]
theorem key_ll (a b : Int) : decide ((Sum.inl a : Key) = Sum.inl b) = (a == b) := by
  by_cases e : a = b
  · subst e; simp
  · have h : ¬ (Sum.inl a : Key) = Sum.inl b := fun q => e (Sum.inl.inj q)
    rw [decide_eq_false h]
    exact (beq_eq_false_iff_ne.mpr e).symm
theorem key_rr (a b : Str) : decide ((Sum.inr a : Key) = Sum.inr b) = decide (a = b) := by
  by_cases e : a = b
  · subst e; simp
  · have h : ¬ (Sum.inr a : Key) = Sum.inr b := fun q => e (Sum.inr.inj q)
    rw [decide_eq_false h, decide_eq_false e]
theorem key_lr (a : Int) (b : Str) : decide ((Sum.inl a : Key) = Sum.inr b) = false := decide_eq_false (fun q => nomatch q)
theorem key_rl (a : Str) (b : Int) : decide ((Sum.inr a : Key) = Sum.inl b) = false := decide_eq_false (fun q => nomatch q)
def mixKind (prog : Program) (w : World) : PySem.KeyKind prog w Key where
  is := keyIs
  hash := keyH w
  inj := fun v a b ha hb => by
    rcases keyIs_shape ha with ⟨i, t, rfl, rfl⟩ | ⟨x, t, rfl, rfl⟩
    · rcases keyIs_shape hb with ⟨j, u, rfl, e⟩ | ⟨y, u, rfl, e⟩
      · injection e with e1 _; rw [e1]
      · exact nomatch e
    · rcases keyIs_shape hb with ⟨j, u, rfl, e⟩ | ⟨y, u, rfl, e⟩
      · exact nomatch e
      · injection e with e1 _; rw [e1]
  byValue := fun k v h => by
    rcases keyIs_shape h with ⟨i, t, rfl, rfl⟩ | ⟨x, t, rfl, rfl⟩ <;> rfl
  pyHash := fun hv h => by
    rcases keyIs_shape hv with ⟨i, t, rfl, rfl⟩ | ⟨x, t, rfl, rfl⟩
    · exact wpAny_pyHash_int h
    · exact wpAny_pyHash_str h
  eqBool := fun hu hv h => by
    rcases keyIs_shape hu with ⟨i, t, rfl, rfl⟩ | ⟨x, t, rfl, rfl⟩
    · rcases keyIs_shape hv with ⟨j, u, rfl, rfl⟩ | ⟨y, u, rfl, rfl⟩
      · rw [key_ll] at h; exact wpAny_eqBool_int h
      · rw [key_lr] at h; exact SeqAt.EqAt.int_str i t y u _ _ _ _ h
    · rcases keyIs_shape hv with ⟨j, u, rfl, rfl⟩ | ⟨y, u, rfl, rfl⟩
      · rw [key_rl] at h; exact SeqAt.EqAt.str_int x t j u _ _ _ _ h
      · rw [key_rr] at h; exact wpAny_eqBool_str h
  «strs» := fun k x t v h => by
    rcases keyIs_shape h with ⟨i, u, rfl, e⟩ | ⟨y, u, rfl, e⟩
    · exact nomatch e
    · injection e with e1 _
      subst e1
      cases v <;> rfl
theorem mixKind_int (prog : Program) (w : World) (i : Int) (t : Tok) : (mixKind prog w).is (.inl i) (.int i t) = true := keyIs_int i t
theorem mixKind_str (prog : Program) (w : World) (x : Str) (t : Tok) : (mixKind prog w).is (.inr x) (.str x t) = true := keyIs_str x t
end L2
namespace L2
open PySem PySem.Spec PyProof.Rows
inductive V where
  | non | bl (b : Bool) | int (i : Int) | str (x : Str) | byt (b : Array UInt8) | flt (b : UInt64) | ref (a : Addr) | ty (n : String)
  deriving DecidableEq
def RelV : V → Value → Prop
  | .non, u => u = Value.none
  | .bl b, u => u = Value.bool b
  | .int i, u => ∃ t, u = Value.int i t
  | .str x, u => ∃ t, u = Value.str x t
  | .byt b, u => ∃ t, u = Value.bytes b t
  | .flt b, u => ∃ t, u = Value.float b t
  | .ref a, u => u = Value.ref a
  | .ty n, u => u = Value.type n
abbrev Vals : List V → List Value → Prop := Paired RelV
theorem Vals.length {xs : List V} {us : List Value} (r : Vals xs us) : xs.length = us.length := Paired.length r
theorem Vals.get : ∀ {xs : List V} {us : List Value} {i : Nat} {x : V}, Vals xs us → xs[i]? = some x → ∃ u, us[i]? = some u ∧ RelV x u
  | _, _, _, _, .nil, e => by simp at e
  | _, _, 0, _, .cons r _, e => by simp at e; subst e; exact ⟨_, rfl, r⟩
  | _, _, i + 1, x, .cons _ t, e => by
    obtain ⟨u, h1, h2⟩ := Vals.get (i := i) (x := x) t (by simpa using e)
    exact ⟨u, by simpa using h1, h2⟩
theorem Vals.set {x : V} {u : Value} (r : RelV x u) : ∀ {xs : List V} {us : List Value} (i : Nat), Vals xs us → Vals (xs.set i x) (us.set i u)
  | _, _, _, .nil => .nil
  | _, _, 0, .cons _ t => .cons r t
  | _, _, i + 1, .cons q t => .cons q (Vals.set r i t)
theorem Vals.append : ∀ {xs ys : List V} {us ws : List Value}, Vals xs us → Vals ys ws → Vals (xs ++ ys) (us ++ ws)
  | _, _, _, _, .nil, s => s
  | _, _, _, _, .cons r t, s => .cons r (Vals.append t s)
theorem Vals.take : ∀ {xs : List V} {us : List Value} (n : Nat), Vals xs us → Vals (xs.take n) (us.take n)
  | _, _, 0, _ => .nil
  | _, _, _ + 1, .nil => .nil
  | _, _, n + 1, .cons r t => .cons r (Vals.take n t)
theorem Vals.drop : ∀ {xs : List V} {us : List Value} (n : Nat), Vals xs us → Vals (xs.drop n) (us.drop n)
  | _, _, 0, r => r
  | _, _, _ + 1, .nil => .nil
  | _, _, n + 1, .cons _ t => Vals.drop n t
def RelO : Option V → Option Value → Prop
  | some v, some u => RelV v u
  | none, none => True
  | _, _ => False
def KV {κ : Type} : List (κ × V) → List (κ × Value) → Prop := Paired fun (p : κ × V) (q : κ × Value) => p.1 = q.1 ∧ RelV p.2 q.2
def kV : Key → V
  | .inl i => .int i
  | .inr x => .str x
inductive HO where
  /-- a list -/
  | lst (xs : List V)
  /-- a tuple (never changes) -/
  | tup (xs : List V)
  /-- a dict whose keys are ints and texts; one whose keys are tuples of ints and texts (the empty one is both) -/
  | dK (kvs : List (Key × V)) | dT (kvs : List (List Key × V))
  /-- a set of ints: its members, its size -/
  | set (S : Int → Bool) (n : Nat)
  /-- an instance of the class at C, its dict at dx, its attributes -/
  | ins (C dx : Addr) (fs : List (Str × V))
  /-- the dict of the instance at x -/
  | own (x : Addr)
  /-- the dict of an exception -/
  | xd (fs : List (Str × V))
  /-- a bound method, f of x -/
  | met (f x : Addr)
  /-- a range object lo, lo + 1, .. below hi -/
  | rng (lo hi : Int)
  /-- a thing that is known to the object (the script; a dict while a loop walks it): read, never written while it is so -/
  | frz (o : Obj) (u : HO)
  /-- a code object's table -/
  | tbl (ps : Array Value)
  /-- any other thing, by what is true of its one object (a def of one's own: SetO a S n := HO.ext fun h => ..) -/
  | ext (φ : Heap → Prop)
abbrev Hp := Addr → Option HO
def upd (H : Hp) (a : Addr) (o : HO) : Hp := fun b => if b = a then some o else H b
theorem upd_same {H : Hp} {a : Addr} {o : HO} : upd H a o a = some o := by unfold upd; rw [if_pos rfl]
theorem upd_ne {H : Hp} {a b : Addr} {o : HO} (h : b ≠ a) : upd H a o b = H b := by unfold upd; rw [if_neg h]
theorem ne_of {H : Hp} {a b : Addr} {o u : HO} (h : H a = some o) (h' : H b = some u) (d : o ≠ u) : a ≠ b := by
  intro e; subst e; rw [h] at h'; exact d (Option.some.inj h')
theorem ne_of_none {H : Hp} {a b : Addr} {o : HO} (h : H a = some o) (h' : H b = none) : a ≠ b := by
  intro e; subst e; rw [h] at h'; cases h'
section
variable (P : Program) (w : World)
def ObjOk (H : Hp) (h : Heap) (a : Addr) : HO → Prop
  | .lst xs => xs.length ≤ sizeLine ∧ ∃ (its : List Value) (n : Nat), Vals xs its ∧ h.get? a = some { cls := .type "list", data := .seq its.toArray n }
  | .tup xs => xs.length ≤ sizeLine ∧ ∃ its : List Value, Vals xs its ∧ IsTup h a its.toArray
  | .dK kvs => kvs.length ≤ sizeLine ∧ (a == sysModules) = false ∧ ∃ vs, KV kvs vs ∧ h.DictOf (mixKind P w) a vs
  | .dT kvs => kvs.length ≤ sizeLine ∧ (a == sysModules) = false ∧ ∃ xs : List (List Key × Addr × Value),
      Paired (fun (p : List Key × V) (q : List Key × Addr × Value) => p.1 = q.1 ∧ H q.2.1 = some (.tup (p.1.map kV)) ∧ RelV p.2 q.2.2) kvs xs ∧
      ∃ o es ep, h.get? a = some o ∧ o.ExactDict ∧ o.data = .dict es ep ∧ es.toList = xs.map (entryOfKey (tupleKind (mixKind P w))) ∧ (xs.map (·.1)).Nodup
  | .set S n => h.SetOf (intKind P w) a S n
  | .ins C dx fs => H dx = some (.own a) ∧ fs.length ≤ 1000 ∧ dx ≠ a ∧ h.get? a = some (PySem.W.instObj C dx) ∧
      ∃ mA, h.Ns1 dx mA ∧ (∀ f, RelO (fs.lookup f) (mA f)) ∧ PySem.Within mA (fs.map (·.1))
  | .own _ => ∃ o, h.get? a = some o
  | .xd fs => ∃ mA, h.Ns1 a mA ∧ ∀ f, RelO (fs.lookup f) (mA f)
  | .rng lo hi => ∃ t u v, h.get? a = some { cls := .type "range", data := .fields #[.int lo t, .int hi u, .int 1 v] }
  | .frz o u => h.get? a = some o ∧ ObjOk H h a u
  | .tbl ps => h.get? a = some { cls := .none, data := .fields ps }
  | .met f x => h.get? a = some (PySem.W.methodObj (.ref f) (.ref x))
  | .ext φ => φ h ∧ (∃ o, h.get? a = some o) ∧ ∀ h1 h2 : Heap, φ h1 → (∀ o, h1.get? a = some o → h2.get? a = some o) → φ h2
def HOk (H : Hp) (h : Heap) : Prop := ∀ a o, H a = some o → ObjOk P w H h a o
end
section
variable {P : Program} {w : World} {H H' : Hp} {h h' : Heap} {a : Addr} {o : HO}
theorem ObjOk.lt (x : ObjOk P w H h a o) : a < h.objs.size := by
  cases o with
  | lst xs => obtain ⟨_, _, _, _, e⟩ := x; exact Heap.lt_size e
  | tup xs => obtain ⟨_, _, _, p⟩ := x; exact p.lt
  | dK kvs => obtain ⟨_, _, _, _, o, _, _, e, _⟩ := x; exact Heap.lt_size e
  | dT kvs => obtain ⟨_, _, _, _, o, _, _, e, _⟩ := x; exact Heap.lt_size e
  | set S n => obtain ⟨o, _, _, _, e, _⟩ := x; exact Heap.lt_size e
  | ins C dx fs => obtain ⟨_, _, _, e, _⟩ := x; exact Heap.lt_size e
  | own y => obtain ⟨_, e⟩ := x; exact Heap.lt_size e
  | xd fs => obtain ⟨_, ⟨_, _, _, e, _⟩, _⟩ := x; exact Heap.lt_size e
  | rng lo hi => obtain ⟨_, _, _, e⟩ := x; exact Heap.lt_size e
  | frz ob u => obtain ⟨e, _⟩ := x; exact Heap.lt_size e
  | tbl ps => exact Heap.lt_size (show h.get? a = some _ from x)
  | met f y => exact Heap.lt_size (show h.get? a = some _ from x)
  | ext φ => obtain ⟨_, ⟨_, e⟩, _⟩ := x; exact Heap.lt_size e
theorem Paired.mapP {α β : Type} {F G : α → β → Prop} : ∀ {l₁ : List α} {l₂ : List β}, Paired F l₁ l₂ → (∀ a b, F a b → G a b) → Paired G l₁ l₂
  | _, _, .nil, _ => .nil
  | _, _, .cons r t, f => .cons (f _ _ r) (Paired.mapP t f)
theorem ObjOk.stay (x : ObjOk P w H h a o) (k : ∀ b u, (b = a ∨ H b = some (.own a)) → h.get? b = some u → h'.get? b = some u)
    (ho : ∀ b, H b = some (.own a) → H' b = some (.own a)) (ht : ∀ b xs, H b = some (.tup xs) → H' b = some (.tup xs)) : ObjOk P w H' h' a o := by
  induction o with
  | lst xs => obtain ⟨z, its, n, r, e⟩ := x; exact ⟨z, its, n, r, k _ _ (.inl rfl) e⟩
  | tup xs => obtain ⟨z, its, r, ob, e, c⟩ := x; exact ⟨z, its, r, ob, k _ _ (.inl rfl) e, c⟩
  | dK kvs => obtain ⟨z, y, vs, r, ob, es, ep, e, c⟩ := x; exact ⟨z, y, vs, r, ob, es, ep, k _ _ (.inl rfl) e, c⟩
  | dT kvs =>
    obtain ⟨z, y, xs, r, ob, es, ep, e, c⟩ := x
    exact ⟨z, y, xs, Paired.mapP r fun p q z => ⟨z.1, ht _ _ z.2.1, z.2.2⟩, ob, es, ep, k _ _ (.inl rfl) e, c⟩
  | set S n => obtain ⟨ob, es, ep, t, e, c⟩ := x; exact ⟨ob, es, ep, t, k _ _ (.inl rfl) e, c⟩
  | ins C dx fs =>
    obtain ⟨d, z, ne, e, mA, ⟨od, es, ep, e2, c⟩, r⟩ := x
    exact ⟨ho _ d, z, ne, k _ _ (.inl rfl) e, mA, ⟨od, es, ep, k _ _ (.inr d) e2, c⟩, r⟩
  | own y => obtain ⟨ob, e⟩ := x; exact ⟨ob, k _ _ (.inl rfl) e⟩
  | xd fs => obtain ⟨mA, ⟨od, es, ep, e, c⟩, r⟩ := x; exact ⟨mA, ⟨od, es, ep, k _ _ (.inl rfl) e, c⟩, r⟩
  | rng lo hi => obtain ⟨t, u, v, e⟩ := x; exact ⟨t, u, v, k _ _ (.inl rfl) e⟩
  | frz ob u ih => obtain ⟨e, q⟩ := x; exact ⟨k _ _ (.inl rfl) e, ih q⟩
  | tbl ps =>
    have e : h.get? a = some { cls := .none, data := .fields ps } := x
    show h'.get? a = some { cls := .none, data := .fields ps }
    exact k a _ (.inl rfl) e
  | met f y =>
    have e : h.get? a = some (PySem.W.methodObj (.ref f) (.ref y)) := x
    show h'.get? a = some (PySem.W.methodObj (.ref f) (.ref y))
    exact k a _ (.inl rfl) e
  | ext φ => obtain ⟨p, ⟨o, e⟩, st⟩ := x; exact ⟨st _ _ p fun o q => k _ _ (.inl rfl) q, ⟨o, k _ _ (.inl rfl) e⟩, st⟩
theorem HOk.lt (x : HOk P w H h) (e : H a = some o) : a < h.objs.size := (x a o e).lt
theorem HOk.fresh (x : HOk P w H h) (e : h.objs.size ≤ a) : H a = none := by
  cases q : H a with
  | none => rfl
  | some u => exact absurd (Nat.lt_of_lt_of_le (x.lt q) e) (Nat.lt_irrefl _)
theorem HOk.kept (x : HOk P w H h) (k : ∀ b u, h.get? b = some u → h'.get? b = some u) : HOk P w H h' := fun a o e =>
  (x a o e).stay (fun b u _ q => k b u q) (fun _ q => q) fun _ _ q => q
theorem HOk.laid (x : HOk P w H h) (k : ∀ b u, h.get? b = some u → h'.get? b = some u) (hp : h.objs.size ≤ a) (new : ObjOk P w (upd H a o) h' a o) : HOk P w (upd H a o) h' := fun b u e => by
  have hn := x.fresh hp
  by_cases hb : b = a
  · subst hb; rw [upd_same] at e; cases e; exact new
  · rw [upd_ne hb] at e
    exact (x b u e).stay (fun c v _ q => k c v q) (fun c q => by rw [upd_ne (ne_of_none q hn)]; exact q) fun c xs q => by rw [upd_ne (ne_of_none q hn)]; exact q
end
def Rd (H : Hp) (a : Addr) (u : HO) : Prop := H a = some u ∨ ∃ o, H a = some (.frz o u)
theorem Rd.of {H : Hp} {a : Addr} {u : HO} (h : H a = some u) : Rd H a u := .inl h
theorem Rd.ok {P : Program} {w : World} {H : Hp} {h : Heap} {a : Addr} {u : HO} (r : Rd H a u) (x : HOk P w H h) : ObjOk P w H h a u := by
  rcases r with r | ⟨o, r⟩
  · exact x a u r
  · obtain ⟨_, q⟩ := x a _ r
    exact q
def Mut : Option HO → Prop
  | some (.lst _) => True
  | some (.dK _) => True
  | some (.dT _) => True
  | some (.set _ _) => True
  | some (.ins _ _ _) => True
  | some (.ext _) => True
  | _ => False
section
variable {P : Program} {w : World} {H : Hp} {h h' : Heap} {x e : Addr} {o' : HO}
theorem HOk.write (ok : HOk P w H h) (mu : Mut (H x)) (he : e = x ∨ H e = some (.own x)) (k : ∀ b u, b ≠ e → h.get? b = some u → h'.get? b = some u) (heo : ∃ u, h'.get? e = some u)
    (new : ObjOk P w (upd H x o') h' x o') : HOk P w (upd H x o') h' := fun b u q => by
  have nown : ∀ c y, H c = some (.own y) → c ≠ x := fun c y r z => by subst z; rw [r] at mu; exact mu
  have ntup : ∀ c xs, H c = some (.tup xs) → c ≠ x := fun c xs r z => by subst z; rw [r] at mu; exact mu
  by_cases hb : b = x
  · subst hb; rw [upd_same] at q; cases q; exact new
  · rw [upd_ne hb] at q
    by_cases hbe : b = e
    · have q' : H b = some (.own x) := by
        rcases he with z | z
        · exact absurd (hbe.trans z) hb
        · rw [hbe]; exact z
      rw [q] at q'; cases q'
      obtain ⟨v, hv⟩ := heo
      exact ⟨v, by rw [hbe]; exact hv⟩
    · refine (ok b u q).stay (fun c v hc r => k c v ?_ r) (fun c r => by rw [upd_ne (nown c b r)]; exact r) fun c xs r => by rw [upd_ne (ntup c xs r)]; exact r
      rcases hc with rfl | hc
      · exact hbe
      · rintro rfl
        rcases he with z | z
        · exact nown c b hc z
        · rw [hc] at z; cases z; exact hb rfl
end
structure Un (fs ex : List Addr) (H H' : Hp) (h h' : Heap) : Prop where
  keep : ∀ b o, h.get? b = some o → H b = none → b ∉ fs → b ∉ ex → h'.get? b = some o
  slot : ∀ b o, h.get? b = some o → H b = none → b ∈ fs → b ∉ ex → ∃ sl, h'.get? b = some { o with slots := sl }
  free : ∀ b o, h.get? b = some o → H b = none → b ∉ ex → H' b = none
  there : ∀ b o, h.get? b = some o → b ∉ ex → ∃ o', h'.get? b = some o'
  tups : ∀ b xs, H b = some (.tup xs) → H' b = some (.tup xs)
  frzs : ∀ b o u, H b = some (.frz o u) → H' b = some (.frz o u)
  tbls : ∀ b ps, H b = some (.tbl ps) → ∃ more, H' b = some (.tbl (ps ++ more))
section
variable {fs fs' ex ex' : List Addr} {H H1 H2 : Hp} {h h1 h2 h' : Heap} {a x e : Addr} {o : HO}
theorem Un.any (u : Un fs ex H H1 h h1) {b : Addr} {ob : Obj} (q : h.get? b = some ob) (n : H b = none) (hx : b ∉ ex) : ∃ sl, h1.get? b = some { ob with slots := sl } := by
  by_cases hb : b ∈ fs
  · exact u.slot b ob q n hb hx
  · exact ⟨ob.slots, u.keep b ob q n hb hx⟩
theorem Un.trans (a : Un fs ex H H1 h h1) (b : Un fs ex H1 H2 h1 h2) : Un fs ex H H2 h h2 where
  keep := fun c ob q n hc hx => b.keep c ob (a.keep c ob q n hc hx) (a.free c ob q n hx) hc hx
  slot := fun c ob q n hc hx => by
    obtain ⟨sl, e1⟩ := a.slot c ob q n hc hx
    obtain ⟨sl', e2⟩ := b.slot c _ e1 (a.free c ob q n hx) hc hx
    exact ⟨sl', e2⟩
  free := fun c ob q n hx => by
    obtain ⟨o', e1⟩ := a.there c ob q hx
    exact b.free c o' e1 (a.free c ob q n hx) hx
  there := fun c ob q hx => by
    obtain ⟨o', e1⟩ := a.there c ob q hx
    exact b.there c o' e1 hx
  tups := fun c xs q => b.tups c xs (a.tups c xs q)
  frzs := fun c ob xs q => b.frzs c ob xs (a.frzs c ob xs q)
  tbls := fun c ps q => by
    obtain ⟨m1, e1⟩ := a.tbls c ps q
    obtain ⟨m2, e2⟩ := b.tbls c _ e1
    exact ⟨m1 ++ m2, by rw [e2, Array.append_assoc]⟩
theorem Un.kept (k : ∀ b u, h.get? b = some u → h'.get? b = some u) : Un fs ex H H h h' :=
  ⟨fun b ob q _ _ _ => k b ob q, fun b ob q _ _ _ => ⟨ob.slots, k b ob q⟩, fun _ _ _ n _ => n, fun b ob q _ => ⟨ob, k b ob q⟩, fun _ _ q => q, fun _ _ _ q => q, fun _ ps q => ⟨#[], by rw [q]; simp⟩⟩
theorem Un.refl : Un fs ex H H h h := Un.kept fun _ _ q => q
theorem Un.laid (k : ∀ b u, h.get? b = some u → h'.get? b = some u) (hp : h.objs.size ≤ a) (hn : H a = none) : Un fs ex H (upd H a o) h h' where
  keep := fun b u q _ _ _ => k b u q
  slot := fun b u q _ _ _ => ⟨u.slots, k b u q⟩
  free := fun b u q n _ => by rw [upd_ne (Nat.ne_of_lt (Nat.lt_of_lt_of_le (Heap.lt_size q) hp))]; exact n
  there := fun b u q _ => ⟨u, k b u q⟩
  tups := fun b xs q => by rw [upd_ne (ne_of_none q hn)]; exact q
  frzs := fun b u xs q => by rw [upd_ne (ne_of_none q hn)]; exact q
  tbls := fun b ps q => ⟨#[], by rw [upd_ne (ne_of_none q hn), q]; simp⟩
theorem Un.write (mu : Mut (H x)) (he : e = x ∨ H e = some (.own x)) (k : ∀ b u, b ≠ e → h.get? b = some u → h'.get? b = some u) (heo : ∃ u, h'.get? e = some u) : Un fs ex H (upd H x o) h h' := by
  have hx : ∀ b, H b = none → b ≠ x := fun b n z => by subst z; rw [n] at mu; exact mu
  have hb : ∀ b, H b = none → b ≠ e := fun b n z => by
    subst z
    rcases he with r | r
    · exact hx b n r
    · rw [n] at r; cases r
  have hm : ∀ b u, H b = some u → ¬ Mut (some u) → b ≠ x := fun b u q nm z => by subst z; rw [q] at mu; exact nm mu
  refine ⟨fun b u q n _ _ => k b u (hb b n) q, fun b u q n _ _ => ⟨u.slots, k b u (hb b n) q⟩, fun b u q n _ => by rw [upd_ne (hx b n)]; exact n, fun b u q _ => ?_,
    fun b xs q => by rw [upd_ne (hm b _ q fun z => z)]; exact q, fun b u xs q => by rw [upd_ne (hm b _ q fun z => z)]; exact q, fun b ps q => ⟨#[], by rw [upd_ne (hm b _ q fun z => z), q]; simp⟩⟩
  by_cases hbe : b = e
  · subst hbe; exact heo
  · exact ⟨u, k b u hbe q⟩
theorem Un.mono (u : Un fs ex H H1 h h1) (hs : ∀ b ∈ fs, b ∈ fs') (hx : ∀ b ∈ ex, b ∈ ex') : Un fs' ex' H H1 h h1 :=
  ⟨fun b ob q n hb he => u.keep b ob q n (fun z => hb (hs b z)) fun z => he (hx b z), fun _ _ q n _ he => u.any q n fun z => he (hx _ z), fun b ob q n he => u.free b ob q n fun z => he (hx b z), fun b ob q he => u.there b ob q fun z => he (hx b z), u.tups, u.frzs, u.tbls⟩
end
def trk (h : Heap) (H : Hp) : List Addr := (List.range h.objs.size).filter fun a => (H a).isSome
def hidT (h : Heap) (H : Hp) : Heap := PySem.W.hideAll h (trk h H)
theorem hidT_size (h : Heap) (H : Hp) : (hidT h H).objs.size = h.objs.size := PySem.W.hideAll_size _ _
theorem hidT_get {h : Heap} {H : Hp} {b : Addr} {o : Obj} (e : h.get? b = some o) (n : H b = none) : (hidT h H).get? b = some o :=
  PySem.W.hideAll_get _ e fun hm => by
    have q : (H b).isSome = true := (List.mem_filter.mp hm).2
    rw [n] at q; simp at q
theorem of_hidT {h : Heap} {H : Hp} {b : Addr} {o : Obj} (e : (hidT h H).get? b = some o) : h.get? b = some o ∧ H b = none := by
  have e' : h.get? b = some o := PySem.W.of_hideAll (trk h H) e
  refine ⟨e', ?_⟩
  cases q : H b with
  | none => rfl
  | some x =>
    have hm : b ∈ trk h H := List.mem_filter.mpr ⟨List.mem_range.mpr (Heap.lt_size e'), by simp [q]⟩
    have z : (hidT h H).get? b = none := PySem.W.hideAll_none (trk h H) hm
    rw [z] at e; cases e
def allNews (g h : Heap) (L : Addr) : List (Addr × Obj) := (List.range h.objs.size).filterMap fun a => if a = L ∨ (g.get? a).isSome = true then none else (h.get? a).map fun o => (a, o)
def rest (g h : Heap) (L d : Addr) : List (Addr × Obj) := (allNews g h L).filter fun p => decide (p.1 ≠ d)
end L2
namespace L2
open PySem PySem.Spec PyProof.Rows
structure Mod (K : PySem.W.Frag) (mg : Str → Option Value) (base : Heap) : Prop where
  kin : K.In base
  glob : base.Ns mainGlobals mg
  blt : ∃ mb, base.Ns builtinsNs mb ∧ ∀ x : Str, x ≠ "__name__" → mb x = bootBuiltins x
  nolimit : base.NoLimit
structure Cx where
  prog : Program
  w : World
  K : PySem.W.Frag
  mg : Str → Option Value
  base : Heap
  A : Around
  N : List Str
  s₀ : Shared
  H₀ : Hp
  env : Env
  outer : List Env
  stack : List Env
  ex : List Addr
  fn : Str → Bool
  calm : Bool
  pn : List (Addr × Obj)
  xe : Value → Shared → Prop
def frs (l : List Env) : List Addr := l.filterMap (·.frame)
abbrev Cx.fs (X : Cx) : List Addr := frs X.outer
def Vis (sc : Scope) (x : Str) : Prop := sc.names.lookup x = some .local ∨ sc.names.lookup x = some .cell ∨ sc.names.lookup x = some .free
def Loc (sc : Scope) (x : Str) : Prop := sc.names.lookup x = some .local ∨ sc.names.lookup x = some .cell
def Look (env : Env) (h : Heap) (m : Str → Option Value) (x : Str) (u : Value) : Prop :=
  (env.kindOf x = some .local ∧ m x = some u) ∨ ((env.kindOf x = some .cell ∨ env.kindOf x = some .free) ∧ ∃ c, env.cells.lookup x = some c ∧ h.IsCell c (some u))
structure Cx.Ok (X : Cx) : Prop where
  mod : Mod X.K X.mg X.base
  kind : X.env.scope.kind = .function
  glob : X.env.globals = mainGlobals
  blt : X.env.builtins = builtinsNs
  above : X.s₀.heap.objs.size ≤ X.env.locals
  inj : ∀ x y c, X.env.cells.lookup x = some c → X.env.cells.lookup y = some c → x = y
  has : ∀ x, (X.env.kindOf x = some .cell ∨ X.env.kindOf x = some .free) → ∃ c, X.env.cells.lookup x = some c
  cab : ∀ x c, X.fn x = true → X.env.cells.lookup x = some c → X.s₀.heap.objs.size ≤ c
  hd : X.calm = true → X.A.handled = none
  frames : X.A.frames = some X.stack
  stk : X.stack = X.outer ∨ (X.stack = X.env :: X.outer ∧ X.env.frame = some X.env.locals)
  exf : ∀ b ∈ X.ex, b ≠ X.env.locals ∧ ∀ x c, X.env.cells.lookup x = some c → c ≠ b
  bs : ∀ b o, X.base.get? b = some o → X.s₀.heap.get? b = some o ∧ X.H₀ b = none
  bsz : X.base.objs.size ≤ X.s₀.heap.objs.size
  noex : ∀ b o, X.base.get? b = some o → b ∉ X.ex
  exfs : ∀ b ∈ X.ex, b ∉ X.fs
  funs : X.s₀.heap.FunFrames X.base X.outer
  frf : ∀ b ∈ X.fs, X.H₀ b = none
structure Inv (X : Cx) (pins : List (Addr × Obj)) (σ : List (Option V)) (H : Hp) (s : Shared) : Prop where
  ok : X.Ok
  os : s.os = X.s₀.os
  bare : AllBare s.gens
  base : Un X.fs X.ex X.H₀ H X.s₀.heap s.heap
  loc : ∃ m, s.heap.Ns X.env.locals m ∧ ∀ (i : Nat) (x : Str) (v : V), X.N[i]? = some x → σ[i]? = some (some v) → Vis X.env.scope x → ∃ u, RelV v u ∧ Look X.env s.heap m x u
  cell : ∀ x c, X.env.cells.lookup x = some c → ∃ v, s.heap.IsCell c v
  free : H X.env.locals = none
  freeC : ∀ x c, X.env.cells.lookup x = some c → H c = none
  pin : ∀ p ∈ X.pn ++ pins, s.heap.get? p.1 = some p.2 ∧ H p.1 = none ∧ p.1 ≠ X.env.locals ∧ p.1 ∉ X.fs ∧ ∀ v, p.2.data ≠ .cell v
  hok : HOk X.prog X.w H s.heap
  len : σ.length = X.N.length
section
variable {X : Cx} {pins : List (Addr × Obj)} {σ : List (Option V)} {H H' : Hp} {s : Shared} {h' : Heap}
theorem Cx.Ok.nofr (ok : X.Ok) {b : Addr} {o : Obj} (e : X.base.get? b = some o) : b ∉ X.fs := fun hb => by
  have := (ok.funs.mem hb).1
  rw [e] at this; cases this
theorem Inv.bs (I : Inv X pins σ H s) : ∀ b o, X.base.get? b = some o → s.heap.get? b = some o ∧ H b = none := fun b o e =>
  ⟨I.base.keep b o (I.ok.bs b o e).1 (I.ok.bs b o e).2 (I.ok.nofr e) (I.ok.noex b o e), I.base.free b o (I.ok.bs b o e).1 (I.ok.bs b o e).2 (I.ok.noex b o e)⟩
theorem Inv.bk (I : Inv X pins σ H s) : ∀ b o, X.base.get? b = some o → s.heap.get? b = some o := fun b o e => (I.bs b o e).1
theorem Inv.mod (I : Inv X pins σ H s) : Mod X.K X.mg X.base := I.ok.mod
theorem Inv.kIn (I : Inv X pins σ H s) : X.K.In s.heap := I.ok.mod.kin.keeps I.bk
theorem Inv.nolimit (I : Inv X pins σ H s) : s.heap.NoLimit := I.ok.mod.nolimit.keeps I.bk
theorem Inv.lt (I : Inv X pins σ H s) : X.env.locals < s.heap.objs.size := let ⟨_, hn, _⟩ := I.loc; hn.lt
theorem Inv.sz (I : Inv X pins σ H s) : X.s₀.heap.objs.size ≤ s.heap.objs.size := Nat.le_trans I.ok.above (Nat.le_of_lt I.lt)
theorem Inv.nofs (I : Inv X pins σ H s) {a : Addr} (h : s.heap.objs.size ≤ a) : a ∉ X.fs := fun hb => by
  obtain ⟨_, o, ho, _⟩ := I.ok.funs.mem hb
  exact absurd (Nat.lt_of_lt_of_le (Heap.lt_size ho) (Nat.le_trans I.sz h)) (Nat.lt_irrefl _)
theorem Inv.cne (I : Inv X pins σ H s) : ∀ x c, X.env.cells.lookup x = some c → c ≠ X.env.locals := fun x c e z => by
  obtain ⟨v, o, ho, hd⟩ := I.cell x c e
  obtain ⟨m, ⟨o', es, ep, ho', hd', _⟩, _⟩ := I.loc
  rw [z, ho'] at ho; cases ho; rw [hd'] at hd; cases hd
theorem Inv.funs (I : Inv X pins σ H s) : s.heap.FunFrames X.base X.outer := by
  have all : ∀ (l : List Env), (∀ b ∈ frs l, b ∈ X.fs) → X.s₀.heap.FunFrames X.base l → s.heap.FunFrames X.base l := by
    intro l
    induction l with
    | nil => intro _ _; trivial
    | cons env r ih =>
      intro hs hl
      obtain ⟨hk, ⟨L, o, hf, hn, ho, hd⟩, hr⟩ := hl
      have hL : L ∈ X.fs := hs L (by unfold frs; rw [List.filterMap_cons, hf]; exact List.mem_cons_self)
      obtain ⟨sl, e⟩ := I.base.slot L o ho (I.ok.frf L hL) hL fun z => I.ok.exfs L z hL
      exact ⟨hk, ⟨L, _, hf, hn, e, hd⟩, ih (fun b hb => hs b (by unfold frs; rw [List.filterMap_cons, hf]; exact List.mem_cons_of_mem _ hb)) hr⟩
  exact all X.outer (fun _ hb => hb) I.ok.funs
theorem Inv.stack (I : Inv X pins σ H s) : s.heap.FunFrames X.base X.stack := by
  rcases I.ok.stk with e | ⟨e, hf⟩
  · rw [e]; exact I.funs
  · rw [e]
    obtain ⟨m, hn, _⟩ := I.loc
    refine .cons (by rw [I.ok.kind]; decide) hf hn ?_ I.funs
    exact Heap.get?_none_of_le (Nat.le_trans I.ok.bsz I.ok.above)
theorem Inv.stkSub (I : Inv X pins σ H s) : ∀ b ∈ frs X.stack, b ∈ X.env.locals :: X.fs := fun b hb => by
  rcases I.ok.stk with e | ⟨e, hf⟩
  · rw [e] at hb; exact List.mem_cons_of_mem _ hb
  · rw [e] at hb
    unfold frs at hb
    rw [List.filterMap_cons, hf] at hb
    exact hb
theorem Inv.stkFree (I : Inv X pins σ H s) : ∀ b ∈ frs X.stack, H b = none := fun b hb => by
  rcases List.mem_cons.mp (I.stkSub b hb) with e | hb
  · rw [e]; exact I.free
  · obtain ⟨_, o, ho, _⟩ := I.ok.funs.mem hb
    exact I.base.free b o ho (I.ok.frf b hb) fun z => I.ok.exfs b z hb
theorem Inv.step {g' : Array GenState} {t' : Nat} {d' : Drawn} {ch : List Addr} (I : Inv X pins σ H s)
    (hch : ∀ b ∈ ch, (b ∈ X.ex ∨ X.s₀.heap.objs.size ≤ b) ∧ b ≠ X.env.locals ∧ (∀ x c, X.env.cells.lookup x = some c → c ≠ b) ∧ ∀ p ∈ X.pn ++ pins, p.1 ≠ b)
    (keep : ∀ b o, b ≠ X.env.locals → b ∉ X.fs → b ∉ ch → s.heap.get? b = some o → H b = none → h'.get? b = some o)
    (slot : ∀ b o, b ≠ X.env.locals → b ∈ X.fs → b ∉ ch → s.heap.get? b = some o → H b = none → ∃ sl, h'.get? b = some { o with slots := sl }) (free : ∀ b o, b ∉ ch → s.heap.get? b = some o → H b = none → H' b = none)
    (there : ∀ b o, b ∉ ch → s.heap.get? b = some o → ∃ o', h'.get? b = some o')
    (tups : ∀ b xs, H b = some (.tup xs) → H' b = some (.tup xs)) (frzs : ∀ b o u, H b = some (.frz o u) → H' b = some (.frz o u)) (tbls : ∀ b ps, H b = some (.tbl ps) → ∃ more, H' b = some (.tbl (ps ++ more)))
    (ns : ∀ m, s.heap.Ns X.env.locals m → h'.Ns X.env.locals m) (hok : HOk X.prog X.w H' h') (hg : AllBare g') :
    Inv X pins σ H' { s with heap := h', gens := g', drawn := d', toks := t' } := by
  have neL : ∀ b o, X.s₀.heap.get? b = some o → b ≠ X.env.locals := fun b o e => Nat.ne_of_lt (Nat.lt_of_lt_of_le (Heap.lt_size e) I.ok.above)
  have neC : ∀ b o, X.s₀.heap.get? b = some o → b ∉ X.ex → b ∉ ch := fun b o e hx hb => by
    rcases (hch b hb).1 with z | z
    · exact hx z
    · exact absurd (Nat.lt_of_lt_of_le (Heap.lt_size e) z) (Nat.lt_irrefl _)
  have cellK : ∀ x c, X.env.cells.lookup x = some c → ∀ v, s.heap.IsCell c v → h'.IsCell c v := fun x c e v ⟨o, ho, hd⟩ => by
    have nch : c ∉ ch := fun z => (hch c z).2.2.1 x c e rfl
    by_cases hc : c ∈ X.fs
    · obtain ⟨sl, q⟩ := slot c o (I.cne x c e) hc nch ho (I.freeC x c e)
      exact ⟨_, q, hd⟩
    · exact ⟨o, keep c o (I.cne x c e) hc nch ho (I.freeC x c e), hd⟩
  refine ⟨I.ok, I.os, hg, ⟨fun b o e n hb hx => ?_, fun b o e n hb hx => ?_, fun b o e n hx => ?_, fun b o e hx => ?_, fun b xs e => tups b xs (I.base.tups b xs e), fun b o xs e => frzs b o xs (I.base.frzs b o xs e), fun b ps e => ?_⟩, ?_, fun x c e => ?_, ?_, fun x c e => ?_, fun p hp => ?_, hok, I.len⟩
  · exact keep b o (neL b o e) hb (neC b o e hx) (I.base.keep b o e n hb hx) (I.base.free b o e n hx)
  · obtain ⟨sl, e1⟩ := I.base.slot b o e n hb hx
    obtain ⟨sl', e2⟩ := slot b _ (neL b o e) hb (neC b o e hx) e1 (I.base.free b o e n hx)
    exact ⟨sl', e2⟩
  · obtain ⟨o', e1⟩ := I.base.there b o e hx
    exact free b o' (neC b o e hx) e1 (I.base.free b o e n hx)
  · obtain ⟨o', e1⟩ := I.base.there b o e hx
    exact there b o' (neC b o e hx) e1
  · obtain ⟨m1, e1⟩ := I.base.tbls b ps e
    obtain ⟨m2, e2⟩ := tbls b _ e1
    exact ⟨m1 ++ m2, by rw [e2, Array.append_assoc]⟩
  · obtain ⟨m, hn, hl⟩ := I.loc
    refine ⟨m, ns m hn, fun i x v e1 e2 e3 => ?_⟩
    obtain ⟨u, r, l⟩ := hl i x v e1 e2 e3
    refine ⟨u, r, ?_⟩
    rcases l with l | ⟨k, c, e, z⟩
    · exact .inl l
    · exact .inr ⟨k, c, e, cellK x c e _ z⟩
  · obtain ⟨v, z⟩ := I.cell x c e
    exact ⟨v, cellK x c e v z⟩
  · obtain ⟨m, ⟨o, _, _, ho, _⟩, _⟩ := I.loc
    exact free _ o (fun z => (hch _ z).2.1 rfl) ho I.free
  · obtain ⟨v, o, ho, hd⟩ := I.cell x c e
    exact free c o (fun z => (hch c z).2.2.1 x c e rfl) ho (I.freeC x c e)
  · obtain ⟨e, n, ne, nf, d⟩ := I.pin p hp
    have nch : p.1 ∉ ch := fun z => (hch p.1 z).2.2.2 p hp rfl
    exact ⟨keep p.1 p.2 ne nf nch e n, free p.1 p.2 nch e n, ne, nf, d⟩
theorem Inv.un {t' : Nat} (I : Inv X pins σ H s) (u : Un X.fs [] H H' s.heap h') (hok : HOk X.prog X.w H' h') : Inv X pins σ H' { s with heap := h', toks := t' } := by
  obtain ⟨m, ⟨o, es, ep, ho, r⟩, _⟩ := id I.loc
  obtain ⟨sl, hL⟩ := u.any ho I.free (by simp)
  exact I.step (g' := s.gens) (d' := s.drawn) (ch := []) (fun _ z => nomatch z) (fun b o _ hb _ e n => u.keep b o e n hb (by simp)) (fun b o _ hb _ e n => u.slot b o e n hb (by simp)) (fun b o _ e n => u.free b o e n (by simp)) (fun b o _ e => u.there b o e (by simp)) u.tups u.frzs u.tbls (fun m' hm => by
    obtain ⟨o', es', ep', ho', r'⟩ := hm
    rw [ho] at ho'; cases ho'
    exact ⟨_, es', ep', hL, r'⟩) hok I.bare
theorem Inv.call {g' : Array GenState} {t' : Nat} {d' : Drawn} {ch : List Addr} (I : Inv X pins σ H s) (u : Un (frs X.stack) ch H H' s.heap h') (hok : HOk X.prog X.w H' h') (hg : AllBare g')
    (hch : ∀ b ∈ ch, (b ∈ X.ex ∨ X.s₀.heap.objs.size ≤ b) ∧ b ≠ X.env.locals ∧ (∀ x c, X.env.cells.lookup x = some c → c ≠ b) ∧ ∀ p ∈ X.pn ++ pins, p.1 ≠ b) :
    Inv X pins σ H' { s with heap := h', gens := g', drawn := d', toks := t' } := by
  obtain ⟨m, ⟨o, es, ep, ho, r⟩, _⟩ := id I.loc
  obtain ⟨sl, hL⟩ := u.any ho I.free fun z => (hch _ z).2.1 rfl
  exact I.step (ch := ch) hch (fun b o hL hb hc e n => u.keep b o e n (fun z => (List.mem_cons.mp (I.stkSub b z)).elim hL hb) hc) (fun b o _ _ hc e n => u.any e n hc) (fun b o hc e n => u.free b o e n hc) (fun b o hc e => u.there b o e hc) u.tups u.frzs u.tbls (fun m' hm => by
    obtain ⟨o', es', ep', ho', r'⟩ := hm
    rw [ho] at ho'; cases ho'
    exact ⟨_, es', ep', hL, r'⟩) hok hg
theorem Inv.turned {t' : Nat} {it : Addr} (I : Inv X pins σ H s) (k : ∀ b o, b ≠ it → s.heap.get? b = some o → h'.get? b = some o) (hn : H it = none) (hL : it ≠ X.env.locals)
    (h1 : it ∈ X.ex ∨ X.s₀.heap.objs.size ≤ it) (h2 : ∀ x c, X.env.cells.lookup x = some c → c ≠ it) (h3 : ∀ p ∈ X.pn ++ pins, p.1 ≠ it) : Inv X pins σ H { s with heap := h', toks := t' } := by
  have nit : ∀ b u, H b = some u → b ≠ it := fun b u e z => by rw [z, hn] at e; cases e
  refine I.step (g' := s.gens) (d' := s.drawn) (ch := [it]) (fun b hb => ?_) (fun b o _ _ hc e _ => k b o (fun z => hc (by simp [z])) e) (fun b o _ _ hc e _ => ⟨o.slots, k b o (fun z => hc (by simp [z])) e⟩) (fun _ _ _ _ n => n)
    (fun b o hc e => ⟨o, k b o (fun z => hc (by simp [z])) e⟩) (fun _ _ e => e) (fun _ _ _ e => e) (fun b ps e => ⟨#[], by rw [e]; simp⟩) (fun m hm => ?_) (fun b u e => ?_) I.bare
  · have e : b = it := by simpa using hb
    subst e
    exact ⟨h1, hL, h2, h3⟩
  · obtain ⟨o, es, ep, ho, r⟩ := hm
    exact ⟨o, es, ep, k _ o (Ne.symm hL) ho, r⟩
  · refine (I.hok b u e).stay (fun c v hc q => k c v ?_ q) (fun _ q => q) fun _ _ q => q
    rcases hc with z | z
    · rw [z]; exact nit b u e
    · exact nit c _ z
theorem Inv.tok (I : Inv X pins σ H s) (t : Nat) : Inv X pins σ H { s with toks := t } := I.un (h' := s.heap) (t' := t) Un.refl I.hok
theorem Inv.kept {t' : Nat} (I : Inv X pins σ H s) (k : ∀ b u, s.heap.get? b = some u → h'.get? b = some u) : Inv X pins σ H { s with heap := h', toks := t' } := I.un (Un.kept k) (I.hok.kept k)
theorem Inv.laid {a : Addr} {o : HO} {t' : Nat} (I : Inv X pins σ H s) (k : ∀ b u, s.heap.get? b = some u → h'.get? b = some u) (hp : s.heap.objs.size ≤ a) (new : ObjOk X.prog X.w (upd H a o) h' a o) :
    Inv X pins σ (upd H a o) { s with heap := h', toks := t' } := I.un (Un.laid k hp (I.hok.fresh hp)) (I.hok.laid k hp new)
theorem Inv.write {x e : Addr} {o : HO} {t' : Nat} (I : Inv X pins σ H s) (mu : Mut (H x)) (he : e = x ∨ H e = some (.own x)) (k : ∀ b u, b ≠ e → s.heap.get? b = some u → h'.get? b = some u) (heo : ∃ u, h'.get? e = some u)
    (new : ObjOk X.prog X.w (upd H x o) h' x o) : Inv X pins σ (upd H x o) { s with heap := h', toks := t' } := I.un (Un.write mu he k heo) (I.hok.write mu he k heo new)
theorem Inv.pins_of {pins' : List (Addr × Obj)} (I : Inv X pins σ H s) (h : ∀ p ∈ pins', s.heap.get? p.1 = some p.2 ∧ H p.1 = none ∧ p.1 ≠ X.env.locals ∧ p.1 ∉ X.fs ∧ ∀ v, p.2.data ≠ .cell v) : Inv X pins' σ H s :=
  ⟨I.ok, I.os, I.bare, I.base, I.loc, I.cell, I.free, I.freeC, fun p hp => (List.mem_append.mp hp).elim (fun z => I.pin p (List.mem_append_left _ z)) (h p), I.hok, I.len⟩
theorem nodup_ix {N : List Str} (hN : N.Nodup) {i j : Nat} {x : Str} (a : N[i]? = some x) (b : N[j]? = some x) : i = j := by
  obtain ⟨h1, e1⟩ := List.getElem?_eq_some_iff.mp a
  obtain ⟨h2, e2⟩ := List.getElem?_eq_some_iff.mp b
  exact (List.getElem_inj hN).mp (e1.trans e2.symm)
theorem store_ok2 {M : Model} {A : Around} {E : Value → Shared → Prop} {i : Nat} {x : Str} {v : V} {u : Value} {Q : Unit → Shared → Prop} (I : Inv X pins σ H s) (hN : X.N.Nodup) (hi : X.N[i]? = some x) (hx : Loc X.env.scope x) (r : RelV v u)
    (h : ∀ s', Inv X pins (σ.set i (some v)) H s' → (∃ a, Heap.SameBut a s.heap s'.heap ∧ (a = X.env.locals ∨ X.env.cells.lookup x = some a)) → Q () s') (hf : X.fn x = true ∨ X.env.scope.names.lookup x = some .local := by first | exact .inl rfl | exact .inr rfl | assumption) : wpAny M A (storeName X.env x u) Q E s := by
  obtain ⟨m, hn, hl⟩ := id I.loc
  have hcls : (X.env.scope.kind == .class || (X.env.scope.kind == .module && X.env.locals != X.env.globals)) = false := by rw [I.ok.kind]; rfl
  have hiσ : i < σ.length := by rw [I.len]; exact (List.getElem?_eq_some_iff.mp hi).1
  have cne := I.cne
  have tracked : ∀ {a : Addr} {h' : Heap}, (∃ o, s.heap.get? a = some o ∧ H a = none) → Heap.SameBut a s.heap h' → HOk X.prog X.w H h' := fun {a h'} ha hs b ob e => by
    obtain ⟨_, _, hfree⟩ := ha
    refine (I.hok b ob e).stay (fun c w' hc q => (hs.2 c ?_).trans q) (fun _ q => q) fun _ _ q => q
    rintro rfl
    rcases hc with rfl | hc
    · rw [hfree] at e; cases e
    · rw [hfree] at hc; cases hc
  rcases hx with hk | hk
  · refine wpAny_storeName_local hk hn (fun h' hn' hs => ?_) hcls
    obtain ⟨oL, _, _, hoL, _⟩ := id hn
    refine h _ ⟨I.ok, I.os, I.bare, ⟨fun b o e n hb hx => ?_, fun b o e n hb hx => ?_, I.base.free, fun b o e hx => ?_, I.base.tups, I.base.frzs, I.base.tbls⟩, ⟨_, hn', fun j y v' e1 e2 e3 => ?_⟩, fun y c e => ?_, I.free, I.freeC, fun p hp => ?_, tracked ⟨oL, hoL, I.free⟩ hs, by simpa using I.len⟩ ⟨_, hs, .inl rfl⟩
    · exact (hs.2 b (Nat.ne_of_lt (Nat.lt_of_lt_of_le (Heap.lt_size e) I.ok.above))).trans (I.base.keep b o e n hb hx)
    · obtain ⟨sl, e1⟩ := I.base.slot b o e n hb hx
      exact ⟨sl, (hs.2 b (Nat.ne_of_lt (Nat.lt_of_lt_of_le (Heap.lt_size e) I.ok.above))).trans e1⟩
    · obtain ⟨o', e1⟩ := I.base.there b o e hx
      exact ⟨o', (hs.2 b (Nat.ne_of_lt (Nat.lt_of_lt_of_le (Heap.lt_size e) I.ok.above))).trans e1⟩
    · by_cases hj : j = i
      · subst hj
        rw [hi] at e1; cases e1
        rw [List.getElem?_set_self hiσ] at e2
        cases e2
        exact ⟨u, r, .inl ⟨hk, by simp⟩⟩
      · rw [List.getElem?_set_ne (Ne.symm hj)] at e2
        obtain ⟨u', r', q⟩ := hl j y v' e1 e2 e3
        refine ⟨u', r', ?_⟩
        rcases q with ⟨k, e⟩ | ⟨k, c, e, z⟩
        · refine .inl ⟨k, ?_⟩
          have : y ≠ x := fun e => hj (nodup_ix hN e1 (e ▸ hi))
          simp [this, e]
        · exact .inr ⟨k, c, e, z.sameBut hs (cne y c e)⟩
    · obtain ⟨w', z⟩ := I.cell y c e
      exact ⟨w', z.sameBut hs (cne y c e)⟩
    · obtain ⟨e, n, ne, nf, d⟩ := I.pin p hp
      exact ⟨(hs.2 p.1 ne).trans e, n, ne, nf, d⟩
  · have hfn : X.fn x = true := by
      rcases hf with z | z
      · exact z
      · rw [z] at hk; cases hk
    obtain ⟨c, hc⟩ := I.ok.has x (.inl hk)
    obtain ⟨w', z⟩ := I.cell x c hc
    refine wpAny_storeName_cell I.ok.kind hk hc z (fun h' hc' hs => ?_)
    obtain ⟨oc, hoc, hocd⟩ := id z
    refine h { s with heap := h' } ⟨I.ok, I.os, I.bare, ⟨fun b o e n hb hx => ?_, fun b o e n hb hx => ?_, I.base.free, fun b o e hx => ?_, I.base.tups, I.base.frzs, I.base.tbls⟩, ⟨m, hn.sameBut hs (Ne.symm (cne x c hc)), fun j y v' e1 e2 e3 => ?_⟩, fun y c' e => ?_, I.free, I.freeC, fun p hp => ?_, tracked ⟨oc, hoc, I.freeC x c hc⟩ hs, by simpa using I.len⟩ ⟨c, hs, .inr hc⟩
    · exact (hs.2 b (Nat.ne_of_lt (Nat.lt_of_lt_of_le (Heap.lt_size e) (I.ok.cab x c hfn hc)))).trans (I.base.keep b o e n hb hx)
    · obtain ⟨sl, e1⟩ := I.base.slot b o e n hb hx
      exact ⟨sl, (hs.2 b (Nat.ne_of_lt (Nat.lt_of_lt_of_le (Heap.lt_size e) (I.ok.cab x c hfn hc)))).trans e1⟩
    · obtain ⟨o', e1⟩ := I.base.there b o e hx
      exact ⟨o', (hs.2 b (Nat.ne_of_lt (Nat.lt_of_lt_of_le (Heap.lt_size e) (I.ok.cab x c hfn hc)))).trans e1⟩
    · by_cases hj : j = i
      · subst hj
        rw [hi] at e1; cases e1
        rw [List.getElem?_set_self hiσ] at e2
        cases e2
        exact ⟨u, r, .inr ⟨.inl hk, c, hc, hc'⟩⟩
      · rw [List.getElem?_set_ne (Ne.symm hj)] at e2
        obtain ⟨u', r', q⟩ := hl j y v' e1 e2 e3
        refine ⟨u', r', ?_⟩
        rcases q with q | ⟨k, c', e, z'⟩
        · exact .inl q
        · refine .inr ⟨k, c', e, z'.sameBut hs ?_⟩
          rintro rfl
          exact hj (nodup_ix hN e1 (I.ok.inj _ _ _ e hc ▸ hi))
    · by_cases hcc : c' = c
      · subst hcc; exact ⟨_, hc'⟩
      · obtain ⟨w2, z2⟩ := I.cell y c' e
        exact ⟨w2, z2.sameBut hs hcc⟩
    · obtain ⟨e, n, ne, nf, d⟩ := I.pin p hp
      refine ⟨(hs.2 p.1 ?_).trans e, n, ne, nf, d⟩
      intro q
      rw [q, hoc] at e
      have q' : oc = p.2 := Option.some.inj e
      exact d w' (by rw [← q']; exact hocd)
theorem store_ok {M : Model} {A : Around} {E : Value → Shared → Prop} {i : Nat} {x : Str} {v : V} {u : Value} {Q : Unit → Shared → Prop} (I : Inv X pins σ H s) (hN : X.N.Nodup) (hi : X.N[i]? = some x) (hx : Loc X.env.scope x) (r : RelV v u)
    (h : ∀ s', Inv X pins (σ.set i (some v)) H s' → Q () s') (hf : X.fn x = true ∨ X.env.scope.names.lookup x = some .local := by first | exact .inl rfl | exact .inr rfl | assumption) : wpAny M A (storeName X.env x u) Q E s :=
  store_ok2 I hN hi hx r (fun s' I' _ => h s' I') hf
theorem Inv.call' {s' : Shared} {ch : List Addr} (I : Inv X pins σ H s) (ho : s'.os = s.os) (u : Un (frs X.stack) ch H H' s.heap s'.heap) (hok : HOk X.prog X.w H' s'.heap) (hg : AllBare s'.gens)
    (hch : ∀ b ∈ ch, (b ∈ X.ex ∨ X.s₀.heap.objs.size ≤ b) ∧ b ≠ X.env.locals ∧ (∀ x c, X.env.cells.lookup x = some c → c ≠ b) ∧ ∀ p ∈ X.pn ++ pins, p.1 ≠ b) : Inv X pins σ H' s' := by
  obtain ⟨h', g', d', t', o'⟩ := s'
  have e : o' = s.os := ho
  subst e
  exact I.call (g' := g') (t' := t') (d' := d') u hok hg hch
end
abbrev XK := Value → Option Addr → Hp → Prop
abbrev St := List (Option V)
abbrev VK := V → Hp → Prop
abbrev TE := St → Hp → VK → Prop
abbrev TT := St → Hp → (Bool → Hp → Prop) → Prop
abbrev TA := St → Hp → (List V → Hp → Prop) → Prop
structure Ends where
  nx : St → Hp → Prop
  rt : VK
  bk : St → Hp → Prop := fun _ _ => False
  ct : St → Hp → Prop := fun _ _ => False
abbrev TS := Ends → St → Hp → Prop
def EP (X : Cx) (pins : List (Addr × Obj)) (σ : St) (Q : VK) (u : Value) (s' : Shared) : Prop := ∃ v H', Inv X pins σ H' s' ∧ RelV v u ∧ Q v H'
def TP (X : Cx) (pins : List (Addr × Obj)) (σ : St) (Q : Bool → Hp → Prop) (b : Bool) (s' : Shared) : Prop := ∃ H', Inv X pins σ H' s' ∧ Q b H'
def AP (X : Cx) (pins : List (Addr × Obj)) (σ : St) (Q : List V → Hp → Prop) (us : List Value) (s' : Shared) : Prop := ∃ vs H', Inv X pins σ H' s' ∧ Vals vs us ∧ Q vs H'
def SP (X : Cx) (pins : List (Addr × Obj)) (D : Ends) (f : Flow) (s' : Shared) : Prop :=
  match f with
  | .next => ∃ σ' H', Inv X pins σ' H' s' ∧ D.nx σ' H'
  | .brk => ∃ σ' H', Inv X pins σ' H' s' ∧ D.bk σ' H'
  | .cont => ∃ σ' H', Inv X pins σ' H' s' ∧ D.ct σ' H'
  | .ret u => ∃ v σ' H', Inv X pins σ' H' s' ∧ RelV v u ∧ D.rt v H'
def PE (X : Cx) (e : Expr) (t : TE) : Prop :=
  ∀ (pins : List (Addr × Obj)) (s : Shared) (σ : St) (H : Hp) (Q : VK), Inv X pins σ H s → t σ H Q → wpAny (model X.prog X.w) X.A (eval e X.env) (EP X pins σ Q) X.xe s
def PT (X : Cx) (e : Expr) (t : TT) : Prop :=
  ∀ (pins : List (Addr × Obj)) (s : Shared) (σ : St) (H : Hp) (Q : Bool → Hp → Prop), Inv X pins σ H s → t σ H Q → wpAny (model X.prog X.w) X.A (isTrue e X.env (eval e X.env)) (TP X pins σ Q) X.xe s
def PW (X : Cx) (e : Expr) (t : TT) : Prop :=
  ∀ (whole : Sem Value) (pins : List (Addr × Obj)) (s : Shared) (σ : St) (H : Hp) (Q : Bool → Hp → Prop), Inv X pins σ H s → t σ H Q → wpAny (model X.prog X.w) X.A (isTrue e X.env whole) (TP X pins σ Q) X.xe s
theorem PW.pt {X : Cx} {e : Expr} {t : TT} (h : PW X e t) : PT X e t := h _
def PA (X : Cx) (es : List Expr) (t : TA) : Prop :=
  ∀ (pos : Pos) (pins : List (Addr × Obj)) (s : Shared) (σ : St) (H : Hp) (Q : List V → Hp → Prop), Inv X pins σ H s → t σ H Q → wpAny (model X.prog X.w) X.A (spliced (backTo pos (starEach es X.env))) (AP X pins σ Q) X.xe s
def PS (X : Cx) (st : Stmt) (t : TS) : Prop :=
  ∀ (pins : List (Addr × Obj)) (s : Shared) (σ : St) (H : Hp) (D : Ends), Inv X pins σ H s → t D σ H → wpAny (model X.prog X.w) X.A (exec st X.env) (SP X pins D) X.xe s
def PSs (X : Cx) (st : List Stmt) (t : TS) : Prop :=
  ∀ (pins : List (Addr × Obj)) (s : Shared) (σ : St) (H : Hp) (D : Ends), Inv X pins σ H s → t D σ H → wpAny (model X.prog X.w) X.A (execs st X.env) (SP X pins D) X.xe s
theorem thn {α : Type} {t : Sem α} {Q Q' : α → Shared → Prop} {M : Model} {A : Around} {E : Value → Shared → Prop} {s : Shared} (h : wpAny M A t Q E s) (hQ : ∀ a s, Q a s → Q' a s) : wpAny M A t Q' E s := wpAny_mono h hQ fun _ _ x => x
end L2
namespace L2
open PySem PySem.Spec PyProof.Rows
section
variable {X : Cx}
def tVar (i : Nat) : TE := fun σ H Q => ∃ v, σ[i]? = some (some v) ∧ Q v H
def tC (v : V) : TE := fun _ H Q => Q v H
theorem pe_var {i : Nat} {x : Str} {pos : Pos} (hN : X.N[i]? = some x) (hv : Vis X.env.scope x) (hd : (x == ("__debug__" : Str)) = false := by decide) (hcd : (x == ("__classdict__" : Str)) = false := by decide) : PE X (.Name x pos) (tVar i) := by
  intro pins s σ H Q I h
  obtain ⟨v, e, h⟩ := h
  obtain ⟨m, hn, hl⟩ := I.loc
  obtain ⟨u, r, l⟩ := hl i x v hN e hv
  have fin : EP X pins σ Q u s := ⟨v, H, I, r, h⟩
  rcases l with ⟨hk, hm⟩ | ⟨hk, c, hc, hcell⟩
  · exact wpAny_Name (wpAny_loadName_local I.ok.kind hk hn hm fin) hd
  · rcases hk with hk | hk
    · exact wpAny_Name (wpAny_loadName_cell I.ok.kind hk hc hcell fin) hd
    · exact wpAny_Name (wpAny_loadName_free I.ok.kind hk hc hcell fin hcd) hd
theorem pe_int {i j pos} : PE X (.Constant (.int i) j pos) (tC (.int i)) := fun _ _ _ H _ I h => wpAny_Constant_int ⟨.int i, H, I.tok _, ⟨_, rfl⟩, h⟩
theorem pe_bl {b j pos} : PE X (.Constant (.bool b) j pos) (tC (.bl b)) := fun _ _ _ H _ I h => Constant_bool ⟨.bl b, H, I, rfl, h⟩
theorem pe_non {j pos} : PE X (.Constant .none j pos) (tC .non) := fun _ _ _ H _ I h => Constant_none ⟨.non, H, I, rfl, h⟩
theorem pe_str {x j pos} : PE X (.Constant (.str x) j pos) (tC (.str x)) := fun _ _ _ H _ I h => Calls.Constant_str ⟨.str x, H, I.tok _, ⟨_, rfl⟩, h⟩
def Gl (X : Cx) (x : Str) : Prop := X.env.kindOf x = some .globalImplicit
theorem ld_glob {E : Value → Shared → Prop} {pins : List (Addr × Obj)} {s : Shared} {σ : St} {H : Hp} {x : Str} {u : Value} {pos : Pos} {Q : Value → Shared → Prop} (I : Inv X pins σ H s) (hg : Gl X x) (hm : X.mg x = some u) (h : Q u s)
    (hd : (x == ("__debug__" : Str)) = false := by decide) : wpAny (model X.prog X.w) X.A (eval (.Name x pos) X.env) Q E s :=
  Calls.Name_function_global I.ok.kind hg (Calls.loadGlobal_global (by rw [I.ok.glob]; exact I.mod.glob.keeps I.bk) hm h) hd
theorem ld_blt {E : Value → Shared → Prop} {pins : List (Addr × Obj)} {s : Shared} {σ : St} {H : Hp} {x : Str} {u : Value} {pos : Pos} {Q : Value → Shared → Prop} (I : Inv X pins σ H s) (hg : Gl X x) (hm : X.mg x = none) (hv : bootBuiltins x = some u) (h : Q u s)
    (hn : x ≠ "__name__" := by decide) (hd : (x == ("__debug__" : Str)) = false := by decide) : wpAny (model X.prog X.w) X.A (eval (.Name x pos) X.env) Q E s := by
  obtain ⟨mb, h1, h2⟩ := I.mod.blt
  exact Calls.Name_function_global I.ok.kind hg (Calls.loadGlobal_builtin (by rw [I.ok.glob]; exact I.mod.glob.keeps I.bk) hm (by rw [I.ok.blt]; exact h1.keeps I.bk) ((h2 x hn).trans hv) h) hd
theorem pe_glob {x : Str} {v : V} {u : Value} {pos : Pos} (hg : Gl X x) (hm : X.mg x = some u) (r : RelV v u) (hd : (x == ("__debug__" : Str)) = false := by decide) : PE X (.Name x pos) (tC v) :=
  fun _ _ _ H _ I h => ld_glob I hg hm ⟨v, H, I, r, h⟩ hd
variable {a b : Expr} {ta tb : TE} {pos : Pos}
variable {tA tB' : TT} {rest : List Expr}
def tAnd (t u : TT) : TT := fun σ H Q => t σ H fun c H1 => if c = true then u σ H1 Q else Q false H1
def tOr (t u : TT) : TT := fun σ H Q => t σ H fun c H1 => if c = true then Q true H1 else u σ H1 Q
def tNot (t : TT) : TT := fun σ H Q => t σ H fun c H1 => Q (!c) H1
theorem pw_and1 (ha : PT X a tA) : PW X (.BoolOp .And [a] pos) tA := by
  intro wh pins s σ H Q I h
  refine isTrue_and (thn (ha pins s σ H Q I h) fun c s1 e => ?_)
  cases c with
  | true => exact isTrue_and_nil e
  | false => exact e
theorem pw_or1 (ha : PT X a tA) : PW X (.BoolOp .Or [a] pos) tA := by
  intro wh pins s σ H Q I h
  refine isTrue_or (thn (ha pins s σ H Q I h) fun c s1 e => ?_)
  cases c with
  | false => exact isTrue_or_nil e
  | true => exact e
theorem pw_and (ha : PT X a tA) (hb : PW X (.BoolOp .And (b :: rest) pos) tB') : PW X (.BoolOp .And (a :: b :: rest) pos) (tAnd tA tB') := by
  intro wh pins s σ H Q I h
  refine isTrue_and (thn (ha pins s σ H _ I h) fun c s1 ⟨H1, I1, q1⟩ => ?_)
  cases c with
  | true => exact hb wh pins s1 σ H1 Q I1 q1
  | false => exact ⟨H1, I1, q1⟩
theorem pw_or (ha : PT X a tA) (hb : PW X (.BoolOp .Or (b :: rest) pos) tB') : PW X (.BoolOp .Or (a :: b :: rest) pos) (tOr tA tB') := by
  intro wh pins s σ H Q I h
  refine isTrue_or (thn (ha pins s σ H _ I h) fun c s1 ⟨H1, I1, q1⟩ => ?_)
  cases c with
  | true => exact ⟨H1, I1, q1⟩
  | false => exact hb wh pins s1 σ H1 Q I1 q1
theorem pt_not (ha : PT X a tA) : PT X (.UnaryOp .Not a pos) (tNot tA) := by
  intro pins s σ H Q I h
  exact isTrue_not (ha pins s σ H (fun c H1 => Q (!c) H1) I h)
theorem pe_one {op} {t : TE} (h : PE X a t) : PE X (.BoolOp op [a] pos) t := fun pins s σ H Q I hw => BoolOp_one (h pins s σ H Q I hw)
def tIf (t : TT) (ta tb : TE) : TE := fun σ H Q => t σ H fun c H1 => if c = true then ta σ H1 Q else tb σ H1 Q
theorem pe_ifExp {c : Expr} (hc : PT X c tA) (ha : PE X a ta) (hb : PE X b tb) : PE X (.IfExp c a b pos) (tIf tA ta tb) := by
  intro pins s σ H Q I h
  refine wpAny_IfExp (thn (hc pins s σ H _ I h) fun d s1 ⟨H1, I1, q1⟩ => ?_)
  cases d with
  | true => exact ha pins s1 σ H1 Q I1 q1
  | false => exact hb pins s1 σ H1 Q I1 q1
end
end L2
namespace L2
open PySem PySem.Spec PyProof.Rows
def SqL (K : PySem.W.Frag) (H : Hp) (a : Addr) (xs : List V) : Prop :=
  Rd H a (.lst xs) ∨
    ∃ (o : Obj) (its : Array Value) (n : Nat), K.lookup a = some o ∧ o.cls = .type "list" ∧ o.dict = none ∧ o.data = .seq its n ∧ its.size ≤ sizeLine ∧ Vals xs its.toList
def SqT (K : PySem.W.Frag) (H : Hp) (a : Addr) (xs : List V) : Prop :=
  Rd H a (.tup xs) ∨
    ∃ (o : Obj) (its : Array Value) (n : Nat), K.lookup a = some o ∧ o.cls = .type "tuple" ∧ o.data = .seq its n ∧ its.size ≤ sizeLine ∧ Vals xs its.toList
def absV : Value → Option V
  | .none => some .non
  | .bool b => some (.bl b)
  | .int i _ => some (.int i)
  | .str x _ => some (.str x)
  | .bytes b _ => some (.byt b)
  | .float b _ => some (.flt b)
  | .ref a => some (.ref a)
  | .type n => some (.ty n)
  | _ => none
theorem RelV.abs {x : V} {u : Value} (r : RelV x u) : absV u = some x := by
  cases x with
  | non => cases r; rfl
  | bl _ => cases r; rfl
  | int _ => obtain ⟨t, rfl⟩ := r; rfl
  | str _ => obtain ⟨t, rfl⟩ := r; rfl
  | byt _ => obtain ⟨t, rfl⟩ := r; rfl
  | flt _ => obtain ⟨t, rfl⟩ := r; rfl
  | ref _ => cases r; rfl
  | ty _ => cases r; rfl
theorem RelV.inj {x y : V} {u : Value} (r : RelV x u) (q : RelV y u) : x = y := Option.some.inj (r.abs.symm.trans q.abs)
theorem Vals.inj : ∀ {xs ys : List V} {us : List Value}, Vals xs us → Vals ys us → xs = ys
  | _, _, _, .nil, .nil => rfl
  | _, _, _, .cons r t, .cons r' t' => by rw [r.inj r', Vals.inj t t']
section
variable {X : Cx} {pins : List (Addr × Obj)} {σ : St} {H : Hp} {s : Shared} {a : Addr} {xs ys : List V}
theorem SqL.of {K : PySem.W.Frag} (h : H a = some (.lst xs)) : SqL K H a xs := .inl (.inl h)
theorem SqT.of {K : PySem.W.Frag} (h : H a = some (.tup xs)) : SqT K H a xs := .inl (.inl h)
theorem Inv.list (I : Inv X pins σ H s) (h : SqL X.K H a xs) : ∃ its : List Value, Vals xs its ∧ PlainL s.heap a its.toArray ∧ xs.length ≤ sizeLine := by
  rcases h with h | ⟨o, its, n, hk, hc, hd, hs, hz, r⟩
  · obtain ⟨z, its, n, r, e⟩ := h.ok I.hok
    exact ⟨its, r, ⟨_, n, e, rfl, rfl, rfl⟩, z⟩
  · refine ⟨its.toList, r, ⟨o, n, I.kIn a o hk, hc, hd, by simpa using hs⟩, ?_⟩
    have e := r.length
    simp only [Array.length_toList] at e
    omega
theorem Inv.tuple (I : Inv X pins σ H s) (h : SqT X.K H a xs) : ∃ its : List Value, Vals xs its ∧ IsTup s.heap a its.toArray ∧ xs.length ≤ sizeLine := by
  rcases h with h | ⟨o, its, n, hk, hc, hs, hz, r⟩
  · obtain ⟨z, its, r, p⟩ := h.ok I.hok
    exact ⟨its, r, p, z⟩
  · refine ⟨its.toList, r, ⟨o, I.kIn a o hk, hc, n, by simpa using hs⟩, ?_⟩
    have e := r.length
    simp only [Array.length_toList] at e
    omega
theorem Inv.list_inj (I : Inv X pins σ H s) (h : SqL X.K H a xs) (h' : SqL X.K H a ys) : xs = ys := by
  obtain ⟨its, r, ⟨o, n, e, _, _, d⟩, _⟩ := I.list h
  obtain ⟨its', r', ⟨o', n', e', _, _, d'⟩, _⟩ := I.list h'
  rw [e] at e'; cases e'
  rw [d] at d'
  injection d' with d1 _
  have : its = its' := by simpa using congrArg Array.toList d1
  subst this
  exact r.inj r'
theorem Inv.tuple_inj (I : Inv X pins σ H s) (h : SqT X.K H a xs) (h' : SqT X.K H a ys) : xs = ys := by
  obtain ⟨its, r, ⟨o, e, _, n, d⟩, _⟩ := I.tuple h
  obtain ⟨its', r', ⟨o', e', _, n', d'⟩, _⟩ := I.tuple h'
  rw [e] at e'; cases e'
  rw [d] at d'
  injection d' with d1 _
  have : its = its' := by simpa using congrArg Array.toList d1
  subst this
  exact r.inj r'
end
abbrev Cx.wish (X : Cx) (E : Value → Shared → Prop) : Cx := { X with xe := E }
abbrev Cx.nox (X : Cx) : Cx := X.wish fun _ _ => False
theorem Cx.Ok.wish {X : Cx} (ok : X.Ok) (E : Value → Shared → Prop) : (X.wish E).Ok :=
  ⟨ok.mod, ok.kind, ok.glob, ok.blt, ok.above, ok.inj, ok.has, ok.cab, ok.hd, ok.frames, ok.stk, ok.exf, ok.bs, ok.bsz, ok.noex, ok.exfs, ok.funs, ok.frf⟩
theorem Cx.Ok.unwish {X : Cx} {E : Value → Shared → Prop} (ok : (X.wish E).Ok) : X.Ok :=
  ⟨ok.mod, ok.kind, ok.glob, ok.blt, ok.above, ok.inj, ok.has, ok.cab, ok.hd, ok.frames, ok.stk, ok.exf, ok.bs, ok.bsz, ok.noex, ok.exfs, ok.funs, ok.frf⟩
section
variable {X : Cx} {pins : List (Addr × Obj)} {σ : St} {H : Hp} {s : Shared} {E : Value → Shared → Prop}
theorem Inv.wish (I : Inv X pins σ H s) (E : Value → Shared → Prop) : Inv (X.wish E) pins σ H s := ⟨I.ok.wish E, I.os, I.bare, I.base, I.loc, I.cell, I.free, I.freeC, I.pin, I.hok, I.len⟩
theorem Inv.unwish (I : Inv (X.wish E) pins σ H s) : Inv X pins σ H s := ⟨I.ok.unwish, I.os, I.bare, I.base, I.loc, I.cell, I.free, I.freeC, I.pin, I.hok, I.len⟩
theorem SP.unwish {D : Ends} {f : Flow} {s' : Shared} (h : SP (X.wish E) pins D f s') : SP X pins D f s' := by
  cases f with
  | next => obtain ⟨σ', H', I, q⟩ := h; exact ⟨σ', H', I.unwish, q⟩
  | brk => obtain ⟨σ', H', I, q⟩ := h; exact ⟨σ', H', I.unwish, q⟩
  | cont => obtain ⟨σ', H', I, q⟩ := h; exact ⟨σ', H', I.unwish, q⟩
  | ret u => obtain ⟨v, σ', H', I, r, q⟩ := h; exact ⟨v, σ', H', I.unwish, r, q⟩
theorem PE.nox {e : Expr} {t : TE} (h : PE X.nox e t) : PE X e t := fun pins s σ H Q I hw =>
  wpAny_mono (h pins s σ H Q (I.wish _) hw) (fun _ _ ⟨v, H', I', r, q⟩ => ⟨v, H', I'.unwish, r, q⟩) fun _ _ z => False.elim z
theorem PT.nox {e : Expr} {t : TT} (h : PT X.nox e t) : PT X e t := fun pins s σ H Q I hw =>
  wpAny_mono (h pins s σ H Q (I.wish _) hw) (fun _ _ ⟨H', I', q⟩ => ⟨H', I'.unwish, q⟩) fun _ _ z => False.elim z
theorem PSs.nox {st : List Stmt} {t : TS} (h : PSs X.nox st t) : PSs X st t := fun pins s σ H D I hw =>
  wpAny_mono (h pins s σ H D (I.wish _) hw) (fun _ _ q => q.unwish) fun _ _ z => False.elim z
end
section
variable {X : Cx} {st : Stmt} {rest : List Stmt} {t u : TS} {e : Expr} {te : TE} {pos : Pos}
def tNext : TS := fun D σ H => D.nx σ H
def tSeq (t u : TS) : TS := fun D σ H => t { D with nx := u D } σ H
theorem pss_nil : PSs X [] tNext := fun _ _ σ H _ I h => wpAny_execs_nil ⟨σ, H, I, h⟩
theorem pss_cons (h1 : PS X st t) (h2 : PSs X rest u) : PSs X (st :: rest) (tSeq t u) := by
  intro pins s σ H D I h
  refine wpAny_execs_cons (thn (h1 pins s σ H { D with nx := u D } I h) fun f s1 q => ?_)
  cases f with
  | next =>
    obtain ⟨σ', H', I', q⟩ := q
    exact h2 pins s1 σ' H' D I' q
  | ret v => exact q
  | brk => exact q
  | cont => exact q
theorem pss_one (h1 : PS X st t) : PSs X [st] t := by
  intro pins s σ H D I h
  refine wpAny_execs_cons (thn (h1 pins s σ H D I h) fun f s1 q => ?_)
  cases f with
  | next => exact wpAny_execs_nil q
  | ret v => exact q
  | brk => exact q
  | cont => exact q
theorem Inv.quiet {pins : List (Addr × Obj)} {σ : St} {H : Hp} {s : Shared} (I : Inv X pins σ H s) : interactive X.env = false := by simp [interactive, I.ok.kind]
def tDrop (te : TE) : TS := fun D σ H => te σ H fun _ H1 => D.nx σ H1
theorem ps_expr (he : PE X e te) (hs : swapsWith e none pos.line X.env = pure false := by rfl) : PS X (.Expr e pos) (tDrop te) := by
  intro pins s σ H D I h
  exact wpAny_Expr_any (thn (he pins s σ H _ I h) fun v s1 ⟨x, H1, I1, r1, q1⟩ => ⟨σ, H1, I1, q1⟩) I.quiet hs
def tRet (te : TE) : TS := fun D σ H => te σ H D.rt
theorem ps_ret (he : PE X e te) : PS X (.Return (some e) pos) (tRet te) := by
  intro pins s σ H D I h
  exact wpAny_Return_some (thn (he pins s σ H _ I h) fun v s1 ⟨x, H1, I1, r1, q1⟩ => ⟨x, σ, H1, I1, r1, q1⟩)
def tIfS (c : TT) (t u : TS) : TS := fun D σ H => c σ H fun b H1 => if b = true then t D σ H1 else u D σ H1
theorem ps_if {c : Expr} {a b : List Stmt} {tc : TT} (hc : PT X c tc) (ha : PSs X a t) (hb : PSs X b u) : PS X (.If c a b pos) (tIfS tc t u) := by
  intro pins s σ H D I h
  refine wpAny_If (thn (hc pins s σ H _ I h) fun d s1 ⟨H1, I1, q1⟩ => ?_)
  cases d with
  | true => exact ha pins s1 σ H1 D I1 q1
  | false => exact hb pins s1 σ H1 D I1 q1
end
abbrev TG := V → St → Hp → (St → Hp → Prop) → Prop
abbrev TGs := List V → St → Hp → (St → Hp → Prop) → Prop
def PG (X : Cx) (target : Expr) (t : TG) : Prop :=
  ∀ (pins : List (Addr × Obj)) (s : Shared) (σ : St) (H : Hp) (v : V) (u : Value) (Q : St → Hp → Prop), Inv X pins σ H s → RelV v u → t v σ H Q →
    wpAny (model X.prog X.w) X.A (assign target X.env u) (fun _ s' => ∃ σ' H', Inv X pins σ' H' s' ∧ Q σ' H') X.xe s
def PGs (X : Cx) (ts : List Expr) (t : TGs) : Prop :=
  ∀ (pins : List (Addr × Obj)) (s : Shared) (σ : St) (H : Hp) (vs : List V) (us : List Value) (Q : St → Hp → Prop), Inv X pins σ H s → Vals vs us → t vs σ H Q →
    wpAny (model X.prog X.w) X.A (assignInOrder ((assignEach ts X.env).map (·.2)) us) (fun _ s' => ∃ σ' H', Inv X pins σ' H' s' ∧ Q σ' H') X.xe s
abbrev TSet := V → V → V → Hp → (Hp → Prop) → Prop
def PSet (X : Cx) (t : TSet) : Prop :=
  ∀ (pins : List (Addr × Obj)) (s : Shared) (σ : St) (H : Hp) (o i v : V) (ov iv u : Value) (Q : Hp → Prop), Inv X pins σ H s → RelV o ov → RelV i iv → RelV v u → t o i v H Q →
    wpAny (model X.prog X.w) X.A (setItem ov iv u) (fun _ s' => ∃ H', Inv X pins σ H' s' ∧ Q H') X.xe s
abbrev TIp := V → V → Hp → VK → Prop
def PIp (X : Cx) (op : Operator) (t : TIp) : Prop :=
  ∀ (pins : List (Addr × Obj)) (s : Shared) (σ : St) (H : Hp) (x y : V) (v u : Value) (Q : VK), Inv X pins σ H s → RelV x v → RelV y u → t x y H Q →
    wpAny (model X.prog X.w) X.A (inplaceOp op v u) (EP X pins σ Q) X.xe s
section
variable {X : Cx} {pos : Pos}
def gName (i : Nat) : TG := fun v σ H Q => Q (σ.set i (some v)) H
theorem pg_name {i : Nat} {x : Str} (hN : X.N.Nodup) (hi : X.N[i]? = some x) (hx : Loc X.env.scope x) (hf : X.fn x = true ∨ X.env.scope.names.lookup x = some .local := by first | exact .inl rfl | exact .inr rfl | assumption) : PG X (.Name x pos) (gName i) := by
  intro pins s σ H v u Q I r h
  exact wpAny_assign_Name (store_ok I hN hi hx r (fun s' I' => ⟨_, H, I', h⟩) hf)
def gNil : TGs := fun vs σ H Q => vs = [] ∧ Q σ H
def gCons (t : TG) (u : TGs) : TGs := fun vs σ H Q => ∃ v r, vs = v :: r ∧ t v σ H fun σ' H' => u r σ' H' Q
theorem pgs_nil : PGs X [] gNil := by
  intro pins s σ H vs us Q I r h
  obtain ⟨e, h⟩ := h
  subst e
  cases r
  exact assignInOrder_nil ⟨σ, H, I, h⟩
theorem pgs_cons {e : Expr} {es : List Expr} {t : TG} {u : TGs} (h1 : PG X e t) (h2 : PGs X es u)
    (hs : (assignEach (e :: es) X.env).map (·.2) = assign e X.env :: (assignEach es X.env).map (·.2) := by rfl) : PGs X (e :: es) (gCons t u) := by
  intro pins s σ H vs us Q I r h
  obtain ⟨v, vr, e1, h⟩ := h
  subst e1
  cases r with
  | cons r rr =>
    rw [hs]
    refine assignInOrder_cons (thn (h1 pins s σ H _ _ _ I r h) fun _ s1 ⟨σ1, H1, I1, q1⟩ => ?_)
    exact h2 pins s1 σ1 H1 _ _ Q I1 rr q1
def gTup (K : PySem.W.Frag) (n : Nat) (t : TGs) : TG := fun v σ H Q => ∃ a xs, v = .ref a ∧ SqT K H a xs ∧ xs.length = n ∧ t xs σ H Q
theorem pg_tup {es : List Expr} {k : Nat} {t : TGs} {n : Nat} (hc : X.calm = true) (h : PGs X es t)
    (hn : (assignEach es X.env).length = n := by rfl) (hst : (assignEach es X.env).findIdx? (·.1) = none := by rfl) : PG X (.Tuple es k pos) (gTup X.K n t) := by
  intro pins s σ H v u Q I r hw
  obtain ⟨a, xs, e1, hq, hl, hw⟩ := hw
  subst e1
  cases r
  obtain ⟨its, rv, ht, hz⟩ := I.tuple hq
  refine assign_Tuple_tuple (I.ok.hd hc) ht (by simp [hn, ← hl, rv.length]) hst fun h' hx => ?_
  have I1 : Inv X pins σ H { s with heap := h' } := I.kept (t' := s.toks) fun b o e => hx b o (Nat.ne_of_lt (Heap.lt_size e)) e
  exact h pins _ σ H xs _ Q I1 (by simpa using rv) hw
def gSub (to ti : TE) (t : TSet) : TG := fun v σ H Q => to σ H fun o H1 => ti σ H1 fun i H2 => t o i v H2 fun H3 => Q σ H3
theorem pg_sub {o i : Expr} {to ti : TE} {t : TSet} (ho : PE X o to) (hi : PE X i ti) (hs : PSet X t)
    (ha : ∀ v, assign (.Subscript o i pos) X.env v = (do
      let ov ← holding [v] (eval o X.env)
      let iv ← holding [v, ov] (eval i X.env)
      standAt pos
      holding [v, ov, iv] (setItem ov iv v)
      release [v, ov, iv] []) := by intro _; rfl) : PG X (.Subscript o i pos) (gSub to ti t) := by
  intro pins s σ H v u Q I r h
  rw [ha]
  refine wpAny_bind (wpAny_holding (thn (ho pins s σ H _ I h) fun ov s1 ⟨x, H1, I1, r1, q1⟩ => ?_))
  refine wpAny_bind (wpAny_holding (thn (hi pins s1 σ H1 _ I1 q1) fun iv s2 ⟨y, H2, I2, r2, q2⟩ => ?_))
  refine wpAny_bind (wpAny_standAt (wpAny_bind (wpAny_holding (thn (hs pins s2 σ H2 x y v ov iv u _ I2 r1 r2 r q2) fun _ s3 ⟨H3, I3, q3⟩ => ?_))))
  exact wpAny_release ⟨σ, H3, I3, q3⟩
def tAsg (te : TE) (g : TG) : TS := fun D σ H => te σ H fun x H1 => g x σ H1 D.nx
theorem ps_asg {tg e : Expr} {te : TE} {g : TG} (he : PE X e te) (hg : PG X tg g) (hs : swapsWithSole [tg] e pos.line X.env = pure false := by rfl) (hw : swappedStores [tg] e X.env = pure none := by rfl)
    (h1 : (assignEach [tg] X.env).map (·.2) = [assign tg X.env] := by rfl) : PS X (.Assign [tg] e pos) (tAsg te g) := by
  intro pins s σ H D I h
  refine wpAny_Assign_stores (thn (he pins s σ H _ I h) fun v s1 ⟨x, H1, I1, r1, q1⟩ => ?_) hs hw
  rw [h1]
  exact thn (hg pins s1 σ H1 x v _ I1 r1 q1) fun _ s2 q => q
theorem ps_set {i : Nat} {x : Str} {e : Expr} {te : TE} {pos' : Pos} (hN : X.N.Nodup) (hi : X.N[i]? = some x) (hx : Loc X.env.scope x) (he : PE X e te) (hs : swapsWith e (some (.Name x pos')) pos.line X.env = pure false := by rfl) (hf : X.fn x = true ∨ X.env.scope.names.lookup x = some .local := by first | exact .inl rfl | exact .inr rfl | assumption) :
    PS X (.Assign [.Name x pos'] e pos) (tAsg te (gName i)) := by
  intro pins s σ H D I h
  refine wpAny_Assign_Name (thn (he pins s σ H _ I h) fun v s1 ⟨y, H1, I1, r1, q1⟩ => ?_) hs
  exact store_ok I1 hN hi hx r1 (fun s2 I2 => ⟨_, H1, I2, q1⟩) hf
def tAug (i : Nat) (te : TE) (ti : TIp) : TS := fun D σ H => ∃ x, σ[i]? = some (some x) ∧ te σ H fun y H1 => ti x y H1 fun z H2 => D.nx (σ.set i (some z)) H2
theorem ps_aug {i : Nat} {x : Str} {e : Expr} {te : TE} {op : Operator} {ti : TIp} {pos' : Pos} (hN : X.N.Nodup) (hi : X.N[i]? = some x) (hx : Loc X.env.scope x) (he : PE X e te) (ho : PIp X op ti) (hf : X.fn x = true ∨ X.env.scope.names.lookup x = some .local := by first | exact .inl rfl | exact .inr rfl | assumption) :
    PS X (.AugAssign (.Name x pos') op e pos) (tAug i te ti) := by
  intro pins s σ H D I h
  obtain ⟨v, e1, h⟩ := h
  obtain ⟨m, hn, hl⟩ := I.loc
  have vis : Vis X.env.scope x := by rcases hx with k | k; exact .inl k; exact .inr (.inl k)
  obtain ⟨u, r, l⟩ := hl i x v hi e1 vis
  refine wpAny_AugAssign_Name ?_
  have go : wpAny (model X.prog X.w) X.A (eval e X.env) (fun w s₂ => wpAny (model X.prog X.w) X.A (inplaceOp op u w) (fun r s₃ => wpAny (model X.prog X.w) X.A (storeName X.env x r) (fun _ => SP X pins D .next) X.xe s₃) X.xe s₂) X.xe s := by
    refine thn (he pins s σ H _ I h) fun w s1 ⟨y, H1, I1, r1, q1⟩ => ?_
    refine thn (ho pins s1 σ H1 v y u w _ I1 r r1 q1) fun z s2 ⟨zv, H2, I2, r2, q2⟩ => ?_
    exact store_ok I2 hN hi hx r2 (fun s3 I3 => ⟨_, H2, I3, q2⟩) hf
  rcases l with ⟨hk, hm⟩ | ⟨hk, c, hc, hcell⟩
  · exact wpAny_loadName_local I.ok.kind hk hn hm go
  · rcases hk with hk | hk
    · exact wpAny_loadName_cell I.ok.kind hk hc hcell go
    · rcases hx with k | k
      · have : X.env.scope.names.lookup x = some .free := hk
        rw [k] at this; cases this
      · have : X.env.scope.names.lookup x = some .free := hk
        rw [k] at this; cases this
def ipI (f : Int → Int → Int) : TIp := fun x y H Q => ∃ i j, x = .int i ∧ y = .int j ∧ Q (.int (f i j)) H
theorem ip_add : PIp X .Add (ipI fun i j => i + j) := by
  intro pins s σ H x y v u Q I r1 r2 h
  obtain ⟨i, j, e1, e2, q⟩ := h
  subst e1; subst e2
  obtain ⟨t, rfl⟩ := r1
  obtain ⟨t', rfl⟩ := r2
  exact iadd_int ⟨.int _, H, I.tok _, ⟨_, rfl⟩, q⟩
end
section
variable {X : Cx} {pos : Pos}
def tWhile (c : TT) (tb : TS) : TS := fun D σ H => ∃ W : Nat → St → Hp → Prop, (∃ m, W m σ H) ∧ ∀ m σ H, W m σ H →
  c σ H fun b H1 => if b = true then ∃ N : St → Hp → Prop, (∀ σ' H', N σ' H' → ∃ m', m' < m ∧ W m' σ' H') ∧ tb { D with nx := N, ct := N, bk := D.nx } σ H1 else D.nx σ H1
theorem ps_while {c : Expr} {body : List Stmt} {tc : TT} {tb : TS} (hp : PassesOwn (model X.prog X.w) X.A X.env X.xe) (hc : PT X c tc) (hb : PSs X body tb) : PS X (.While c body [] pos) (tWhile tc tb) := by
  intro pins s σ H D I h
  obtain ⟨W, ⟨m0, w0⟩, turn⟩ := h
  refine wpAny_While (codeAny_whileLoop (fun n s' => ∃ σ' H', Inv X pins σ' H' s' ∧ W n σ' H') ?_ m0 ⟨σ, H, I, w0⟩)
  rintro n s1 ⟨σ1, H1, I1, w1⟩
  refine wpAny_passesOwn hp (thn (hc pins s1 σ1 H1 _ I1 (turn n σ1 H1 w1)) fun b s2 ⟨H2, I2, q2⟩ => ?_)
  cases b with
  | true =>
    obtain ⟨N, hN, q2⟩ := q2
    rw [if_pos rfl]
    refine wpAny_passesOwn hp (thn (hb pins s2 σ1 H2 _ I2 q2) fun f s3 q3 => ?_)
    cases f with
    | next =>
      obtain ⟨σ3, H3, I3, n3⟩ := q3
      obtain ⟨m', hm, w3⟩ := hN σ3 H3 n3
      exact ⟨m', hm, σ3, H3, I3, w3⟩
    | cont =>
      obtain ⟨σ3, H3, I3, n3⟩ := q3
      obtain ⟨m', hm, w3⟩ := hN σ3 H3 n3
      exact ⟨m', hm, σ3, H3, I3, w3⟩
    | brk => exact q3
    | ret v => exact q3
  | false =>
    rw [if_neg Bool.false_ne_true]
    exact wpAny_execs_nil ⟨σ1, H2, I2, q2⟩
end
structure It where
  go : Nat → Hp → Prop
  yld : Nat → Hp → V → Hp → Prop
  stop : Nat → Hp → Prop
def FpOk (X : Cx) (pins : List (Addr × Obj)) (H : Hp) (b : Addr) : Prop :=
  H b = none ∧ b ≠ X.env.locals ∧ b ∉ X.fs ∧ (b ∈ X.ex ∨ X.s₀.heap.objs.size ≤ b) ∧ (∀ x c, X.env.cells.lookup x = some c → c ≠ b) ∧ ∀ p ∈ X.pn ++ pins, p.1 ≠ b
theorem Inv.fpOk {X : Cx} {pins : List (Addr × Obj)} {σ : St} {H H' : Hp} {s : Shared} {b : Addr} (I : Inv X pins σ H s) (hb : s.heap.objs.size ≤ b) (hn : H' b = none) : FpOk X pins H' b := by
  refine ⟨hn, Nat.ne_of_gt (Nat.lt_of_lt_of_le I.lt hb), I.nofs hb, .inr (Nat.le_trans I.sz hb), fun x c e z => ?_, fun p hp z => ?_⟩
  · obtain ⟨v, q⟩ := I.cell x c e
    exact absurd (Nat.lt_of_lt_of_le q.lt (by rw [z]; exact hb)) (Nat.lt_irrefl _)
  · exact absurd (Nat.lt_of_lt_of_le (Heap.lt_size (I.pin p hp).1) (by rw [z]; exact hb)) (Nat.lt_irrefl _)
structure Turn (P : Program) (w : World) (K : PySem.W.Frag) (tg : Expr) (J : It) (fp : List Addr) (it : Addr) (tn : Nat → Heap → Prop) : Prop where
  mem : it ∈ fp
  obj : ∀ i h, tn i h → ∀ b ∈ fp, ∃ o, h.get? b = some o ∧ ∀ v, o.data ≠ .cell v
  keep : ∀ i h h', tn i h → (∀ b ∈ fp, ∀ o, h.get? b = some o → h'.get? b = some o) → tn i h'
  item : ∀ (X : Cx), X.prog = P → X.w = w → X.K = K → X.calm = true → ∀ (i : Nat) (pins : List (Addr × Obj)) (s : Shared) (σ : St) (H : Hp) (E : Value → Shared → Prop), Inv X pins σ H s → (∀ b ∈ fp, FpOk X pins H b) → tn i s.heap → J.go i H →
    wpAny (model P w) X.A (pyNext (.ref it)) (fun r s1 => ∃ u, r = some u ∧
      wpAny (model P w) X.A (letOwnedTupleGo tg (.ref it) u) (fun _ s2 => ∃ x H', Inv X pins σ H' s2 ∧ RelV x u ∧ J.yld i H x H' ∧ tn (i + 1) s2.heap ∧ ∀ b ∈ fp, H' b = none) E s1) E s
  done : ∀ (X : Cx), X.prog = P → X.w = w → X.K = K → X.calm = true → ∀ (i : Nat) (pins : List (Addr × Obj)) (s : Shared) (σ : St) (H : Hp) (E : Value → Shared → Prop), Inv X pins σ H s → (∀ b ∈ fp, FpOk X pins H b) → tn i s.heap → J.stop i H →
    wpAny (model P w) X.A (pyNext (.ref it)) (fun r s1 => r = none ∧ Inv X pins σ H s1) E s
  self : ∀ (A : Around) (i : Nat) (s : Shared) (Q : Value → Shared → Prop) (E : Value → Shared → Prop), tn i s.heap → Q (.ref it) s → wpAny (model P w) A (pyIter (.ref it)) Q E s
abbrev TI := St → Hp → (It → Hp → Prop) → Prop
def PIE (X : Cx) (pins : List (Addr × Obj)) (σ : St) (tg : Expr) (R : It → Hp → Prop) (itv : Value) (s2 : Shared) : Prop :=
  ∃ (it : Addr) (fp : List Addr) (tn : Nat → Heap → Prop) (J : It) (H' : Hp), itv = .ref it ∧ Inv X pins σ H' s2 ∧ Turn X.prog X.w X.K tg J fp it tn ∧ tn 0 s2.heap ∧ (∀ b ∈ fp, FpOk X pins H' b) ∧ R J H'
def PI (X : Cx) (tg iter : Expr) (wi : TI) : Prop :=
  ∀ (pins : List (Addr × Obj)) (s : Shared) (σ : St) (H : Hp) (R : It → Hp → Prop), Inv X pins σ H s → wi σ H R →
    wpAny (model X.prog X.w) X.A (eval iter X.env) (fun v s1 => wpAny (model X.prog X.w) X.A (pyIter v) (PIE X pins σ tg R) X.xe s1) X.xe s
theorem go_of {M : Model} {A : Around} {E : Value → Shared → Prop} {s : Shared} {tg : Expr} {it : Addr} {u : Value} {o : Obj} {n : String} {vs : Array Value} {Q : Unit → Shared → Prop} (ho : s.heap.get? it = some o) (hc : o.cls = .type n) (hd : o.data = .fields vs)
    (hn : ["enumerate", "zip", "dict_itemiterator", "dict_reverseitemiterator", "odict_iterator", "itertools.zip_longest", "itertools.pairwise"].contains n = false) (hQ : Q () s) : wpAny M A (letOwnedTupleGo tg (.ref it) u) Q E s := by
  unfold letOwnedTupleGo
  cases tg <;> first
    | exact wpAny_pure hQ
    | (cases u <;> first
        | exact wpAny_pure hQ
        | (refine wpAny_bind (wpAny_load ho ?_)
           rw [hc, hd]
           show wpAny M A (if (["enumerate", "zip", "dict_itemiterator", "dict_reverseitemiterator", "odict_iterator", "itertools.zip_longest", "itertools.pairwise"].contains n && vs[0]? == some (rawInt _)) = true then _ else _) Q E s
           rw [if_neg (by intro h; rw [hn, Bool.false_and] at h; cases h)]
           exact wpAny_pure hQ))
def Itl (K : PySem.W.Frag) (a : Addr) : It :=
  ⟨fun i H => ∃ xs x, SqL K H a xs ∧ xs[i]? = some x, fun i H x H' => H' = H ∧ ∀ xs, SqL K H a xs → xs[i]? = some x, fun i H => ∃ xs, SqL K H a xs ∧ xs.length ≤ i⟩
def Itt (K : PySem.W.Frag) (a : Addr) : It :=
  ⟨fun i H => ∃ xs x, SqT K H a xs ∧ xs[i]? = some x, fun i H x H' => H' = H ∧ ∀ xs, SqT K H a xs → xs[i]? = some x, fun i H => ∃ xs, SqT K H a xs ∧ xs.length ≤ i⟩
def Itr (lo : Int) (n : Nat) : It := ⟨fun i _ => i < n, fun i H x H' => H' = H ∧ x = .int (lo + i), fun i _ => n ≤ i⟩
theorem turn_list {P : Program} {w : World} {K : PySem.W.Frag} {tg : Expr} (a it : Addr) : Turn P w K tg (Itl K a) [it] it (fun i h => h.IsListIter it a i) where
  mem := by simp
  obj := fun i h st b hb => by
    have e : b = it := by simpa using hb
    subst e
    obtain ⟨o, e, c, d⟩ := st
    exact ⟨o, e, fun v z => by rw [d] at z; cases z⟩
  keep := fun i h h' st k => st.at fun o e => k it (by simp) o e
  item := by
    intro X hP hw hK hc i pins s σ H E I hf st hg
    subst hP hw hK
    obtain ⟨xs, x, hq, hx⟩ := hg
    obtain ⟨its, rv, p, hz⟩ := I.list hq
    obtain ⟨u, hu, ru⟩ := rv.get hx
    obtain ⟨f0, f1, f2, f3, f4, f5⟩ := hf it (by simp)
    refine wpAny_pyNext_list_item st p.isList (x := u) (by simpa using hu) fun h' st' sb => ?_
    have I1 : Inv X pins σ H { s with heap := h' } := I.turned (t' := s.toks) (fun b o hb e => (sb.2 b hb).trans e) f0 f1 f3 f4 f5
    obtain ⟨o, e, c, d⟩ := id st'
    exact ⟨u, rfl, go_of (s := { s with heap := h' }) e c d (by decide) ⟨x, H, I1, ru, ⟨rfl, fun ys hy => by rw [I.list_inj hy hq]; exact hx⟩, st', fun b hb => (hf b hb).1⟩⟩
  done := by
    intro X hP hw hK hc i pins s σ H E I hf st hg
    subst hP hw hK
    obtain ⟨xs, hq, hx⟩ := hg
    obtain ⟨its, rv, p, hz⟩ := I.list hq
    obtain ⟨f0, f1, f2, f3, f4, f5⟩ := hf it (by simp)
    have hl := rv.length
    exact wpAny_pyNext_list_end (I.ok.hd hc) st p.isList (by simp; omega) fun h' eb => ⟨rfl, I.turned (t' := s.toks) (fun b o hb e => eb b o hb e) f0 f1 f3 f4 f5⟩
  self := fun _ _ _ _ _ st h => wpAny_pyIter_listiter st h
theorem turn_tuple {P : Program} {w : World} {K : PySem.W.Frag} {tg : Expr} (a it : Addr) : Turn P w K tg (Itt K a) [it] it (fun i h => h.IsTupleIter it a i) where
  mem := by simp
  obj := fun i h st b hb => by
    have e : b = it := by simpa using hb
    subst e
    obtain ⟨o, e, c, d⟩ := st
    exact ⟨o, e, fun v z => by rw [d] at z; cases z⟩
  keep := fun i h h' st k => st.at fun o e => k it (by simp) o e
  item := by
    intro X hP hw hK hc i pins s σ H E I hf st hg
    subst hP hw hK
    obtain ⟨xs, x, hq, hx⟩ := hg
    obtain ⟨its, rv, p, hz⟩ := I.tuple hq
    obtain ⟨u, hu, ru⟩ := rv.get hx
    obtain ⟨f0, f1, f2, f3, f4, f5⟩ := hf it (by simp)
    refine wpAny_pyNext_tuple_item st (show s.heap.IsTuple a its.toArray from p) (x := u) (by simpa using hu) fun h' st' sb => ?_
    have I1 : Inv X pins σ H { s with heap := h' } := I.turned (t' := s.toks) (fun b o hb e => (sb.2 b hb).trans e) f0 f1 f3 f4 f5
    obtain ⟨o, e, c, d⟩ := id st'
    exact ⟨u, rfl, go_of (s := { s with heap := h' }) e c d (by decide) ⟨x, H, I1, ru, ⟨rfl, fun ys hy => by rw [I.tuple_inj hy hq]; exact hx⟩, st', fun b hb => (hf b hb).1⟩⟩
  done := by
    intro X hP hw hK hc i pins s σ H E I hf st hg
    subst hP hw hK
    obtain ⟨xs, hq, hx⟩ := hg
    obtain ⟨its, rv, p, hz⟩ := I.tuple hq
    obtain ⟨f0, f1, f2, f3, f4, f5⟩ := hf it (by simp)
    have hl := rv.length
    exact wpAny_pyNext_tuple_end (I.ok.hd hc) st (show s.heap.IsTuple a its.toArray from p) (by simp; omega) fun h' eb => ⟨rfl, I.turned (t' := s.toks) (fun b o hb e => eb b o hb e) f0 f1 f3 f4 f5⟩
  self := fun _ _ _ _ _ st h => wpAny_pyIter_tupleiter st h
theorem turn_range {P : Program} {w : World} {K : PySem.W.Frag} {tg : Expr} (it : Addr) (lo : Int) (n : Nat) : Turn P w K tg (Itr lo n) [it] it (fun i h => IsRangeIter h it (lo + (i : Nat) * 1) ((n : Int) - (i : Nat)) 1) where
  mem := by simp
  obj := fun i h st b hb => by
    have e : b = it := by simpa using hb
    subst e
    exact ⟨_, st, fun v z => by
      have z' : Data.fields _ = Data.cell v := z
      cases z'⟩
  keep := fun i h h' st k => k it (by simp) _ st
  item := by
    intro X hP hw hK hc i pins s σ H E I hf st hg
    subst hP hw hK
    obtain ⟨f0, f1, f2, f3, f4, f5⟩ := hf it (by simp)
    have W := Walks.range (prog := X.prog) (w := X.w) (I.ok.hd hc) it lo 1 n
    refine W.item i s _ _ hg st fun v h' tk hv st' kk => ?_
    obtain ⟨t, rfl⟩ := hv
    have I1 : Inv X pins σ H { s with heap := h', toks := tk } := I.turned (fun b o hb e => kk b o (by simpa using hb) e) f0 f1 f3 f4 f5
    refine ⟨_, rfl, go_of (s := { s with heap := h', toks := tk }) (n := "range_iterator") st' rfl rfl (by decide) ⟨.int (lo + i), H, I1, ⟨t, ?_⟩, ⟨rfl, rfl⟩, st', fun b hb => (hf b hb).1⟩⟩
    rw [Int.mul_one]
  done := by
    intro X hP hw hK hc i pins s σ H E I hf st hg
    subst hP hw hK
    obtain ⟨f0, f1, f2, f3, f4, f5⟩ := hf it (by simp)
    exact wpAny_pyNext_range_end (I.ok.hd hc) st (by have : n ≤ i := hg; omega) fun h' eb => ⟨rfl, I.turned (t' := s.toks) (fun b o hb e => eb b o hb e) f0 f1 f3 f4 f5⟩
  self := fun _ _ _ _ _ st h => wpAny_pyIter_rangeiter st h
end L2
namespace L2
open PySem PySem.Spec PyProof.Rows
section
variable {X : Cx} {tg : Expr}
theorem range_it {pins : List (Addr × Obj)} {σ : St} {H : Hp} {s : Shared} {R : It → Hp → Prop} {E : Value → Shared → Prop} {lo hi : Int} {t u v : Tok} {tk : Nat} (I : Inv X pins σ H s) (h1 : -(2 ^ 62) ≤ lo) (h2 : lo < 2 ^ 62) (h3 : -(2 ^ 62) ≤ hi) (h4 : hi < 2 ^ 62)
    (q : R (Itr lo (hi - lo).toNat) H) : wpAny (model X.prog X.w) X.A (pyIter (.ref s.heap.objs.size)) (PIE X pins σ tg R) E { s with heap := s.heap.push { cls := .type "range", data := .fields #[.int lo t, .int hi u, .int 1 v] }, toks := tk } := by
  refine wpAny_pyIter_range (IsRange.new ..) (small_one h1 h2 h3 h4) ?_
  have I1 : Inv X pins σ H { s with heap := s.heap.push { cls := .type "range", data := .fields #[.int lo t, .int hi u, .int 1 v] }, toks := tk } := I.kept fun b o e => Heap.get?_push_of_some _ e
  refine ⟨(s.heap.push { cls := .type "range", data := .fields #[.int lo t, .int hi u, .int 1 v] }).objs.size, [(s.heap.push { cls := .type "range", data := .fields #[.int lo t, .int hi u, .int 1 v] }).objs.size], _, _, H, rfl,
    I1.kept (t' := tk) fun b o e => Heap.get?_push_of_some _ e, turn_range _ lo (hi - lo).toNat, ?_, fun b hb => ?_, q⟩
  · have e1 : lo + ((0 : Nat) : Int) * 1 = lo := by simp
    have e2 : (((hi - lo).toNat : Nat) : Int) - ((0 : Nat) : Int) = Builtin.Range.rangeSize lo hi 1 := by rw [rangeSize_one]; split <;> omega
    show IsRangeIter _ _ (lo + ((0 : Nat) : Int) * 1) ((((hi - lo).toNat : Nat) : Int) - ((0 : Nat) : Int)) 1
    rw [e1, e2]
    exact Heap.get?_push_size _ rfl
  · have e : b = (s.heap.push { cls := .type "range", data := .fields #[.int lo t, .int hi u, .int 1 v] }).objs.size := by simpa using hb
    subst e
    exact I1.fpOk (Nat.le_refl _) (I1.hok.fresh (Nat.le_refl _))
def iRng1 (ta : TA) : TI := fun σ H R => ta σ H fun vs H1 => ∃ j : Int, vs = [.int j] ∧ -(2 ^ 62) ≤ j ∧ j < 2 ^ 62 ∧ R (Itr 0 j.toNat) H1
theorem pi_range1 {a : Expr} {ta : TA} {p pos : Pos} (hg : Gl X "range") (hm : X.mg "range" = none) (ha : PA X [a] ta) (hs : starEach [a] X.env = [(false, eval a X.env)] := by rfl) : PI X tg (.Call (.Name "range" p) [a] [] pos) (iRng1 ta) := by
  intro pins s σ H R I h
  refine Call_ (ld_blt I hg hm boot_range (PyProof.Rows.callWith_type1 (thn (ha pos pins s σ H _ I h) fun us s1 ⟨vs, H1, I1, r1, q1⟩ => ?_) hs rfl))
  obtain ⟨j, e, q1, q2, q⟩ := q1
  subst e
  cases r1 with
  | cons r rr =>
    cases rr
    obtain ⟨t, rfl⟩ := r
    exact call_range_1 (range_it I1 (by omega) (by omega) q1 q2 (by simpa using q))
def tFor (wi : TI) (g : TG) (tb : TS) : TS := fun D σ H => wi σ H fun J H1 => ∃ W : Nat → Nat → St → Hp → Prop, (∃ m, W 0 m σ H1) ∧ ∀ i m σ H, W i m σ H →
  (J.stop i H ∧ D.nx σ H) ∨ (J.go i H ∧ ∃ N : St → Hp → Prop, (∀ σ' H', N σ' H' → ∃ m', m' < m ∧ W (i + 1) m' σ' H') ∧ ∀ x H', J.yld i H x H' → g x σ H' fun σ2 H2 => tb { D with nx := N, ct := N, bk := D.nx } σ2 H2)
def pinsAt (fp : List Addr) (h : Heap) : List (Addr × Obj) := fp.filterMap fun b => (h.get? b).map fun o => (b, o)
theorem mem_pinsAt {fp : List Addr} {h : Heap} {b : Addr} {o : Obj} (hb : b ∈ fp) (e : h.get? b = some o) : (b, o) ∈ pinsAt fp h := List.mem_filterMap.mpr ⟨b, hb, by rw [e]; rfl⟩
theorem of_pinsAt {fp : List Addr} {h : Heap} {p : Addr × Obj} (hp : p ∈ pinsAt fp h) : p.1 ∈ fp ∧ h.get? p.1 = some p.2 := by
  obtain ⟨b, hb, e⟩ := List.mem_filterMap.mp hp
  cases q : h.get? b with
  | none => rw [q] at e; cases e
  | some o =>
    rw [q] at e
    have e' : (b, o) = p := Option.some.inj e
    subst e'
    exact ⟨hb, q⟩
theorem Inv.pinned {pins : List (Addr × Obj)} {σ : St} {H : Hp} {s : Shared} {fp : List Addr} (I : Inv X pins σ H s) (hf : ∀ b ∈ fp, FpOk X pins H b) (ho : ∀ b ∈ fp, ∃ o, s.heap.get? b = some o ∧ ∀ v, o.data ≠ .cell v) : Inv X (pins ++ pinsAt fp s.heap) σ H s :=
  I.pins_of fun p hp => (List.mem_append.mp hp).elim (fun z => I.pin p (List.mem_append_right _ z)) fun z => by
    obtain ⟨hb, e⟩ := of_pinsAt z
    obtain ⟨f0, f1, f2, _⟩ := hf p.1 hb
    obtain ⟨o, e', d⟩ := ho p.1 hb
    rw [e] at e'; cases e'
    exact ⟨e, f0, f1, f2, d⟩
theorem Inv.unpinned {pins pl : List (Addr × Obj)} {σ : St} {H : Hp} {s : Shared} (I : Inv X (pins ++ pl) σ H s) : Inv X pins σ H s := I.pins_of fun p hp => I.pin p (List.mem_append_right _ (List.mem_append_left _ hp))
theorem ps_for {iter : Expr} {body : List Stmt} {wi : TI} {g : TG} {tb : TS} {pos : Pos} (hp : PassesOwn (model X.prog X.w) X.A X.env X.xe) (hc : X.calm = true) (hi : PI X tg iter wi) (hg : PG X tg g) (hb : PSs X body tb)
    (hs : ∀ x, foldedSetIterable iter X.env x = pure x := by intro _; rfl) : PS X (.For tg iter body [] pos) (tFor wi g tb) := by
  intro pins s σ H D I h
  refine wpAny_For (thn (hi pins s σ H _ I h) fun v s1 h1 => thn h1 fun itv s2 h2 => ?_) hs
  obtain ⟨it, fp, tn, J, H2, e, I2, T, st2, f2, W, ⟨m0, w0⟩, turn⟩ := h2
  subst e
  -- what stays true of the iterator's objects through the loop
  have stat : ∀ {H' : Hp}, (∀ b ∈ fp, H' b = none) → ∀ b ∈ fp, FpOk X pins H' b := fun hn b hb => ⟨hn b hb, (f2 b hb).2⟩
  refine codeAny_forLoop_any (fun n s' => ∃ i σ' H', Inv X pins σ' H' s' ∧ tn i s'.heap ∧ (∀ b ∈ fp, H' b = none) ∧ W i n σ' H') ?_ m0 ⟨0, σ, H2, I2, st2, fun b hb => (f2 b hb).1, w0⟩
  rintro n s3 ⟨i, σ3, H3, I3, st3, fr3, w3⟩
  rcases turn i n σ3 H3 w3 with ⟨stop, qn⟩ | ⟨go, N, hN, step⟩
  · refine wpAny_passesOwn hp (thn (T.done X rfl rfl rfl hc i pins s3 σ3 H3 X.xe I3 (stat fr3) st3 stop) fun r s4 ⟨hr, I4⟩ => ?_)
    subst hr
    exact wpAny_execs_nil ⟨σ3, H3, I4, qn⟩
  · refine wpAny_passesOwn hp (thn (T.item X rfl rfl rfl hc i pins s3 σ3 H3 X.xe I3 (stat fr3) st3 go) fun r s4 ⟨u, hr, h4⟩ => ?_)
    subst hr
    refine wpAny_passesOwn hp (thn h4 fun _ s5 ⟨x, H5, I5, r5, y5, st5, fr5⟩ => ?_)
    have I5' := I5.pinned (stat fr5) (T.obj _ _ st5)
    refine wpAny_passesOwn hp (thn (hg _ s5 σ3 H5 x u _ I5' r5 (step x H5 y5)) fun _ s6 ⟨σ6, H6, I6, q6⟩ => ?_)
    refine wpAny_passesOwn hp (thn (hb _ s6 σ6 H6 _ I6 q6) fun f s7 q7 => ?_)
    have again : ∀ {σ7 : St} {H7 : Hp}, Inv X (pins ++ pinsAt fp s5.heap) σ7 H7 s7 → N σ7 H7 → ∃ m, m < n ∧ ∃ i σ' H', Inv X pins σ' H' s7 ∧ tn i s7.heap ∧ (∀ b ∈ fp, H' b = none) ∧ W i m σ' H' := fun {σ7 H7} I7 n7 => by
      obtain ⟨m', hm, w7⟩ := hN σ7 H7 n7
      refine ⟨m', hm, i + 1, σ7, H7, I7.unpinned, T.keep _ _ _ st5 fun b hb o e => (I7.pin (b, o) (List.mem_append_right _ (List.mem_append_right _ (mem_pinsAt hb e)))).1, fun b hb => ?_, w7⟩
      obtain ⟨o, e, d⟩ := T.obj _ _ st5 b hb
      exact (I7.pin (b, o) (List.mem_append_right _ (List.mem_append_right _ (mem_pinsAt hb e)))).2.1
    cases f with
    | next => obtain ⟨σ7, H7, I7, n7⟩ := q7; exact again I7 n7
    | cont => obtain ⟨σ7, H7, I7, n7⟩ := q7; exact again I7 n7
    | brk => obtain ⟨σ7, H7, I7, q7⟩ := q7; exact ⟨σ7, H7, I7.unpinned, q7⟩
    | ret v => obtain ⟨x7, σ7, H7, I7, r7, q7⟩ := q7; exact ⟨x7, σ7, H7, I7.unpinned, r7, q7⟩
end
theorem for_list {K : PySem.W.Frag} {a : Addr} {xs : List V} {g : TG} {tb : TS} {D : Ends} {σ : St} {H : Hp} (Pv : Nat → St → Hp → Prop) (h0 : Pv 0 σ H) (hl : ∀ i σ H, i ≤ xs.length → Pv i σ H → SqL K H a xs)
    (hs : ∀ i x σ H, xs[i]? = some x → Pv i σ H → g x σ H fun σ2 H2 => tb { D with nx := Pv (i + 1), ct := Pv (i + 1), bk := D.nx } σ2 H2) (hd : ∀ σ H, Pv xs.length σ H → D.nx σ H) :
    ∃ W : Nat → Nat → St → Hp → Prop, (∃ m, W 0 m σ H) ∧ ∀ i m σ H, W i m σ H →
      ((Itl K a).stop i H ∧ D.nx σ H) ∨ ((Itl K a).go i H ∧ ∃ N : St → Hp → Prop, (∀ σ' H', N σ' H' → ∃ m', m' < m ∧ W (i + 1) m' σ' H') ∧ ∀ x H', (Itl K a).yld i H x H' → g x σ H' fun σ2 H2 => tb { D with nx := N, ct := N, bk := D.nx } σ2 H2) := by
  refine ⟨fun i m σ H => m = xs.length - i ∧ i ≤ xs.length ∧ Pv i σ H, ⟨xs.length, by simp, Nat.zero_le _, h0⟩, ?_⟩
  rintro i m σ H ⟨rfl, hi, p⟩
  have q := hl i σ H hi p
  by_cases hlt : i < xs.length
  · refine .inr ⟨⟨xs, xs[i], q, by simp [hlt]⟩, Pv (i + 1), fun σ' H' p' => ⟨xs.length - (i + 1), by omega, rfl, hlt, p'⟩, fun x H' y => ?_⟩
    obtain ⟨e, y⟩ := y
    subst e
    exact hs i x σ _ (y xs q) p
  · have e : i = xs.length := by omega
    subst e
    exact .inl ⟨⟨xs, q, Nat.le_refl _⟩, hd σ H p⟩
theorem for_range {lo : Int} {n : Nat} {g : TG} {tb : TS} {D : Ends} {σ : St} {H : Hp} (Pv : Nat → St → Hp → Prop) (h0 : Pv 0 σ H)
    (hs : ∀ i σ H, i < n → Pv i σ H → g (.int (lo + i)) σ H fun σ2 H2 => tb { D with nx := Pv (i + 1), ct := Pv (i + 1), bk := D.nx } σ2 H2) (hd : ∀ σ H, Pv n σ H → D.nx σ H) :
    ∃ W : Nat → Nat → St → Hp → Prop, (∃ m, W 0 m σ H) ∧ ∀ i m σ H, W i m σ H →
      ((Itr lo n).stop i H ∧ D.nx σ H) ∨ ((Itr lo n).go i H ∧ ∃ N : St → Hp → Prop, (∀ σ' H', N σ' H' → ∃ m', m' < m ∧ W (i + 1) m' σ' H') ∧ ∀ x H', (Itr lo n).yld i H x H' → g x σ H' fun σ2 H2 => tb { D with nx := N, ct := N, bk := D.nx } σ2 H2) := by
  refine ⟨fun i m σ H => m = n - i ∧ i ≤ n ∧ Pv i σ H, ⟨n, by simp, Nat.zero_le _, h0⟩, ?_⟩
  rintro i m σ H ⟨rfl, hi, p⟩
  by_cases hlt : i < n
  · refine .inr ⟨hlt, Pv (i + 1), fun σ' H' p' => ⟨n - (i + 1), by omega, rfl, hlt, p'⟩, fun x H' y => ?_⟩
    obtain ⟨e, y⟩ := y
    subst e y
    exact hs i σ _ hlt p
  · have e : i = n := by omega
    subst e
    exact .inl ⟨Nat.le_refl _, hd σ H p⟩
end L2
namespace L2
open PySem PySem.Spec PyProof.Rows
abbrev R2 := V → V → Hp → VK → Prop
def OpR (X : Cx) (f : Value → Value → Sem Value) (r : R2) : Prop :=
  ∀ (pins : List (Addr × Obj)) (s : Shared) (σ : St) (H : Hp) (x y : V) (v u : Value) (Q : VK), Inv X pins σ H s → RelV x v → RelV y u → r x y H Q →
    wpAny (model X.prog X.w) X.A (f v u) (EP X pins σ Q) X.xe s
def UnR (X : Cx) (f : Value → Sem Value) (r : V → Hp → VK → Prop) : Prop :=
  ∀ (pins : List (Addr × Obj)) (s : Shared) (σ : St) (H : Hp) (x : V) (v : Value) (Q : VK), Inv X pins σ H s → RelV x v → r x H Q →
    wpAny (model X.prog X.w) X.A (f v) (EP X pins σ Q) X.xe s
def CallR (X : Cx) (f : Value) (r : List V → Hp → VK → Prop) : Prop :=
  ∀ (pins : List (Addr × Obj)) (s : Shared) (σ : St) (H : Hp) (xs : List V) (us : List Value) (Q : VK), Inv X pins σ H s → Vals xs us → r xs H Q →
    wpAny (model X.prog X.w) X.A (call f us) (EP X pins σ Q) X.xe s
def TruR (X : Cx) (r : V → Hp → (Bool → Hp → Prop) → Prop) : Prop :=
  ∀ (pins : List (Addr × Obj)) (s : Shared) (σ : St) (H : Hp) (x : V) (v : Value) (Q : Bool → Hp → Prop), Inv X pins σ H s → RelV x v → r x H Q →
    wpAny (model X.prog X.w) X.A (truthy v) (TP X pins σ Q) X.xe s
def tOp (r : R2) (ta tb : TE) : TE := fun σ H Q => ta σ H fun x H1 => tb σ H1 fun y H2 => r x y H2 Q
def rI (C : Int → Int → Prop) (g : Int → Int → V) : R2 := fun x y H Q => ∃ i j, x = .int i ∧ y = .int j ∧ C i j ∧ Q (g i j) H
def rI0 (g : Int → Int → V) : R2 := fun x y H Q => ∃ i j, x = .int i ∧ y = .int j ∧ Q (g i j) H
section
variable {X : Cx} {a b c : Expr} {ta tb tc : TE} {pos : Pos}
theorem binT (ha : PE X a ta) (hb : PE X b tb) {pins : List (Addr × Obj)} {s : Shared} {σ : St} {H : Hp} {R : V → V → Hp → Prop} (I : Inv X pins σ H s)
    (h : ta σ H fun x H1 => tb σ H1 fun y H2 => R x y H2) {Q : Value → Shared → Prop} {f : Value → Value → Sem Value}
    (hf : ∀ v u s2 x y H2, Inv X pins σ H2 s2 → RelV x v → RelV y u → R x y H2 → wpAny (model X.prog X.w) X.A (f v u) Q X.xe s2) :
    wpAny (model X.prog X.w) X.A (eval a X.env) (fun v s₁ => wpAny (model X.prog X.w) X.A (eval b X.env) (fun u s₂ => wpAny (model X.prog X.w) X.A (f v u) Q X.xe s₂) X.xe s₁) X.xe s := by
  refine thn (ha pins s σ H _ I h) fun v s1 ⟨x, H1, I1, r1, q1⟩ => ?_
  refine thn (hb pins s1 σ H1 _ I1 q1) fun u s2 ⟨y, H2, I2, r2, q2⟩ => ?_
  exact hf v u s2 x y H2 I2 r1 r2 q2
theorem pe_op {op : Operator} {r : R2} (ho : OpR X (binaryOp op) r) (ha : PE X a ta) (hb : PE X b tb) : PE X (.BinOp a op b pos) (tOp r ta tb) := by
  intro pins s σ H Q I h
  exact wpAny_BinOp (binT ha hb I h fun v u s2 x y H2 I2 rx ry q => ho pins s2 σ H2 x y v u Q I2 rx ry q)
theorem opI {f : Value → Value → Sem Value} {C : Int → Int → Prop} {g : Int → Int → Int}
    (rule : ∀ (i j : Int) (t u : Tok) (s : Shared) (Q : Value → Shared → Prop) (E : Value → Shared → Prop), C i j → Q (.int (g i j) s.toks) { s with toks := s.toks + 1 } → wpAny (model X.prog X.w) X.A (f (.int i t) (.int j u)) Q E s) :
    OpR X f (rI C fun i j => .int (g i j)) := by
  intro pins s σ H x y v u Q I rx ry h
  obtain ⟨i, j, rfl, rfl, hc, q⟩ := h
  obtain ⟨t, rfl⟩ := rx
  obtain ⟨t', rfl⟩ := ry
  exact rule i j t t' s _ _ hc ⟨.int (g i j), H, I.tok _, ⟨_, rfl⟩, q⟩
theorem opI0 {f : Value → Value → Sem Value} {g : Int → Int → Int}
    (rule : ∀ (i j : Int) (t u : Tok) (s : Shared) (Q : Value → Shared → Prop) (E : Value → Shared → Prop), Q (.int (g i j) s.toks) { s with toks := s.toks + 1 } → wpAny (model X.prog X.w) X.A (f (.int i t) (.int j u)) Q E s) :
    OpR X f (rI0 fun i j => .int (g i j)) := by
  intro pins s σ H x y v u Q I rx ry h
  obtain ⟨i, j, rfl, rfl, q⟩ := h
  obtain ⟨t, rfl⟩ := rx
  obtain ⟨t', rfl⟩ := ry
  exact rule i j t t' s _ _ ⟨.int (g i j), H, I.tok _, ⟨_, rfl⟩, q⟩
theorem opB0 {f : Value → Value → Sem Value} {g : Int → Int → Bool}
    (rule : ∀ (i j : Int) (t u : Tok) (s : Shared) (Q : Value → Shared → Prop) (E : Value → Shared → Prop), Q (.bool (g i j)) s → wpAny (model X.prog X.w) X.A (f (.int i t) (.int j u)) Q E s) :
    OpR X f (rI0 fun i j => .bl (g i j)) := by
  intro pins s σ H x y v u Q I rx ry h
  obtain ⟨i, j, rfl, rfl, q⟩ := h
  obtain ⟨t, rfl⟩ := rx
  obtain ⟨t', rfl⟩ := ry
  exact rule i j t t' s _ _ ⟨.bl (g i j), H, I, rfl, q⟩
def CPow (i j : Int) : Prop := 0 ≤ j ∧ j ≤ 1000000 ∧ i.natAbs < 2 ^ 64
def CMul (i j : Int) : Prop := (-(2 ^ 64) < i ∧ i < 2 ^ 64) ∨ (-(2 ^ 64) < j ∧ j < 2 ^ 64)
theorem CMul.ok {i j : Int} (h : CMul i j) : IntMulOk i j := by
  rcases h with ⟨h1, h2⟩ | ⟨h1, h2⟩
  · exact .of_left (intBits_le_64 h1 h2)
  · exact .of_right (intBits_le_64 h1 h2)
theorem op_add : OpR X (binaryOp .Add) (rI0 fun i j => .int (i + j)) := opI0 fun _ _ _ _ _ _ _ q => add_int q
theorem op_sub : OpR X (binaryOp .Sub) (rI0 fun i j => .int (i - j)) := opI0 fun _ _ _ _ _ _ _ q => sub_int q
theorem op_mul : OpR X (binaryOp .Mult) (rI CMul fun i j => .int (i * j)) := opI fun _ _ _ _ _ _ _ hc q => mul_int q hc.ok
theorem op_mod : OpR X (binaryOp .Mod) (rI (fun _ j => 0 < j) fun i j => .int (i % j)) := opI fun i j _ _ _ _ _ hc q => by
  have h1 : (0 : Int) < j := hc
  exact mod_int' (by omega) (by rw [Int.fmod_eq_emod_of_nonneg i (by omega)]; exact q)
theorem op_pow : OpR X (binaryOp .Pow) (rI CPow fun i j => .int (i ^ j.toNat)) := opI fun _ _ _ _ _ _ _ hc q => pow_int_small hc.1 hc.2.1 hc.2.2 q
end
def scal : V → V → Bool
  | .non, .non => true | .non, .int _ => true | .int _, .non => true | .non, .bl _ => true | .bl _, .non => true | .non, .str _ => true | .str _, .non => true
  | .int _, .int _ => true | .bl _, .bl _ => true | .str _, .str _ => true | .byt _, .byt _ => true
  | .int _, .str _ => true | .str _, .int _ => true | .bl _, .str _ => true | .str _, .bl _ => true
  | _, _ => false
def rEq : R2 := fun x y H Q => scal x y = true ∧ Q (.bl (decide (x = y))) H
def rNe : R2 := fun x y H Q => scal x y = true ∧ Q (.bl (!decide (x = y))) H
theorem dec_int {i j : Int} : decide (V.int i = V.int j) = (i == j) := by
  rw [Bool.eq_iff_iff]
  simp
theorem dec_bl {i j : Bool} : decide (V.bl i = V.bl j) = (i == j) := by
  rw [Bool.eq_iff_iff]
  simp
theorem dec_str {i j : Str} : decide (V.str i = V.str j) = (i == j) := by
  rw [Bool.eq_iff_iff]
  simp
theorem dec_byt {i j : Array UInt8} : decide (V.byt i = V.byt j) = (i.toList == j.toList) := by
  rw [Bool.eq_iff_iff]
  cases i
  cases j
  simp
section
variable {X : Cx} {a b c : Expr} {ta tb tc : TE} {pos : Pos}
theorem fin_bl {pins : List (Addr × Obj)} {σ : St} {H : Hp} {s : Shared} {Q : VK} {k k' : Bool} (I : Inv X pins σ H s) (q : Q (.bl k) H) (e : k = k') : EP X pins σ Q (.bool k') s := by
  subst e
  exact ⟨.bl k, H, I, rfl, q⟩
theorem op_eq : OpR X (compareOp .Eq) rEq := by
  intro pins s σ H x y v u Q I rx ry h
  obtain ⟨hs, q⟩ := h
  cases x with
  | non =>
    cases rx
    cases y with
    | non => cases ry; exact PySem.EqNone.eq_none_none (fin_bl I q (by simp))
    | bl j => cases ry; exact PySem.EqNone.eq_none_bool (fin_bl I q (by simp))
    | int j => obtain ⟨t', rfl⟩ := ry; exact PySem.EqNone.eq_none_int (fin_bl I q (by simp))
    | str j => obtain ⟨t', rfl⟩ := ry; exact PySem.EqNone.eq_none_str (fin_bl I q (by simp))
    | _ => exact absurd (show false = true from hs) Bool.false_ne_true
  | bl i =>
    cases rx
    cases y with
    | non => cases ry; exact PySem.EqNone.eq_bool_none (fin_bl I q (by simp))
    | bl j => cases ry; exact eq_bool (fin_bl I q dec_bl)
    | str j => obtain ⟨t', rfl⟩ := ry; exact PySem.EqMixed.eq_bool_str (fin_bl I q (by simp))
    | _ => exact absurd (show false = true from hs) Bool.false_ne_true
  | int i =>
    obtain ⟨t, rfl⟩ := rx
    cases y with
    | non => cases ry; exact PySem.EqNone.eq_int_none (fin_bl I q (by simp))
    | int j => obtain ⟨t', rfl⟩ := ry; exact eq_int (fin_bl I q dec_int)
    | str j => obtain ⟨t', rfl⟩ := ry; exact PySem.EqMixed.eq_int_str (fin_bl I q (by simp))
    | _ => exact absurd (show false = true from hs) Bool.false_ne_true
  | str i =>
    obtain ⟨t, rfl⟩ := rx
    cases y with
    | non => cases ry; exact PySem.EqNone.eq_str_none (fin_bl I q (by simp))
    | bl j => cases ry; exact PySem.EqMixed.eq_str_bool (fin_bl I q (by simp))
    | int j => obtain ⟨t', rfl⟩ := ry; exact PySem.EqMixed.eq_str_int (fin_bl I q (by simp))
    | str j => obtain ⟨t', rfl⟩ := ry; exact eq_str (fin_bl I q dec_str)
    | _ => exact absurd (show false = true from hs) Bool.false_ne_true
  | byt i =>
    obtain ⟨t, rfl⟩ := rx
    cases y with
    | byt j => obtain ⟨t', rfl⟩ := ry; exact PySem.W.eq_bytes (fin_bl I q dec_byt)
    | _ => exact absurd (show false = true from hs) Bool.false_ne_true
  | _ => cases y <;> exact absurd (show false = true from hs) Bool.false_ne_true
theorem op_ne : OpR X (compareOp .NotEq) rNe := by
  intro pins s σ H x y v u Q I rx ry h
  obtain ⟨hs, q⟩ := h
  cases x with
  | non =>
    cases rx
    cases y with
    | non => cases ry; exact PySem.EqNone.ne_none_none (fin_bl I q (by simp))
    | bl j => cases ry; exact PySem.EqNone.ne_none_bool (fin_bl I q (by simp))
    | int j => obtain ⟨t', rfl⟩ := ry; exact PySem.EqNone.ne_none_int (fin_bl I q (by simp))
    | str j => obtain ⟨t', rfl⟩ := ry; exact PySem.EqNone.ne_none_str (fin_bl I q (by simp))
    | _ => exact absurd (show false = true from hs) Bool.false_ne_true
  | bl i =>
    cases rx
    cases y with
    | non => cases ry; exact PySem.EqNone.ne_bool_none (fin_bl I q (by simp))
    | bl j => cases ry; exact ne_bool (fin_bl I q (congrArg not dec_bl))
    | str j => obtain ⟨t', rfl⟩ := ry; exact PySem.EqMixed.ne_bool_str (fin_bl I q (by simp))
    | _ => exact absurd (show false = true from hs) Bool.false_ne_true
  | int i =>
    obtain ⟨t, rfl⟩ := rx
    cases y with
    | non => cases ry; exact PySem.EqNone.ne_int_none (fin_bl I q (by simp))
    | int j => obtain ⟨t', rfl⟩ := ry; exact ne_int (fin_bl I q (congrArg not dec_int))
    | str j => obtain ⟨t', rfl⟩ := ry; exact PySem.EqMixed.ne_int_str (fin_bl I q (by simp))
    | _ => exact absurd (show false = true from hs) Bool.false_ne_true
  | str i =>
    obtain ⟨t, rfl⟩ := rx
    cases y with
    | non => cases ry; exact PySem.EqNone.ne_str_none (fin_bl I q (by simp))
    | bl j => cases ry; exact PySem.EqMixed.ne_str_bool (fin_bl I q (by simp))
    | int j => obtain ⟨t', rfl⟩ := ry; exact PySem.EqMixed.ne_str_int (fin_bl I q (by simp))
    | str j => obtain ⟨t', rfl⟩ := ry; exact ne_str (fin_bl I q (congrArg not dec_str))
    | _ => exact absurd (show false = true from hs) Bool.false_ne_true
  | byt i =>
    obtain ⟨t, rfl⟩ := rx
    cases y with
    | byt j => obtain ⟨t', rfl⟩ := ry; exact PySem.W.ne_bytes (fin_bl I q (congrArg not dec_byt))
    | _ => exact absurd (show false = true from hs) Bool.false_ne_true
  | _ => cases y <;> exact absurd (show false = true from hs) Bool.false_ne_true
theorem op_lt : OpR X (compareOp .Lt) (rI0 fun i j => .bl (decide (i < j))) := opB0 fun _ _ _ _ _ _ _ q => lt_int q
theorem op_le : OpR X (compareOp .LtE) (rI0 fun i j => .bl (decide (i ≤ j))) := opB0 fun _ _ _ _ _ _ _ q => le_int q
theorem op_gt : OpR X (compareOp .Gt) (rI0 fun i j => .bl (decide (j < i))) := opB0 fun _ _ _ _ _ _ _ q => gt_int q
theorem op_ge : OpR X (compareOp .GtE) (rI0 fun i j => .bl (decide (j ≤ i))) := opB0 fun _ _ _ _ _ _ _ q => ge_int q
theorem op_isN : OpR X (compareOp .Is) (fun x y H Q => y = .non ∧ Q (.bl (decide (x = .non))) H) := by
  intro pins s σ H x y v u Q I rx ry h
  obtain ⟨rfl, q⟩ := h
  cases ry
  refine is_none_gen (fin_bl I q ?_)
  cases x <;> first
    | (cases rx; rfl)
    | (obtain ⟨t, rfl⟩ := rx; rfl)
theorem op_notN : OpR X (compareOp .IsNot) (fun x y H Q => y = .non ∧ Q (.bl (!decide (x = .non))) H) := by
  intro pins s σ H x y v u Q I rx ry h
  obtain ⟨rfl, q⟩ := h
  cases ry
  refine isnot_none_gen (fin_bl I q ?_)
  cases x <;> first
    | (cases rx; rfl)
    | (obtain ⟨t, rfl⟩ := rx; rfl)
theorem OpR.or {f : Value → Value → Sem Value} {r r' : R2} (h : OpR X f r) (h' : OpR X f r') : OpR X f (fun x y H Q => r x y H Q ∨ r' x y H Q) := by
  intro pins s σ H x y v u Q I rx ry q
  rcases q with q | q
  · exact h pins s σ H x y v u Q I rx ry q
  · exact h' pins s σ H x y v u Q I rx ry q
theorem nomark (b : Expr) {op : CmpOp} (h : op ≠ .In := by decide) (h2 : op ≠ .NotIn := by decide) : behindInMarks op b = false := by
  have e1 : (op == CmpOp.In) = false := by cases op <;> first | rfl | exact absurd rfl h
  have e2 : (op == CmpOp.NotIn) = false := by cases op <;> first | rfl | exact absurd rfl h2
  cases b <;> simp [behindInMarks, e1, e2]
theorem pe_cmpR {op : CmpOp} {r : R2} (ho : OpR X (compareOp op) r) (ha : PE X a ta) (hb : PE X b tb) (hm : behindInMarks op b = false) : PE X (.Compare a [op] [b] pos) (tOp r ta tb) := by
  intro pins s σ H Q I h
  exact wpAny_Compare1 (binT ha hb I h fun v u s2 x y H2 I2 rx ry q => ho pins s2 σ H2 x y v u Q I2 rx ry q) hm
def tTest (t : TE) : TT := fun σ H Q => t σ H fun x H' => ∃ k, x = .bl k ∧ Q k H'
theorem pt_cmpR {op : CmpOp} {r : R2} (ho : OpR X (compareOp op) r) (ha : PE X a ta) (hb : PE X b tb) (hm : behindInMarks op b = false) : PT X (.Compare a [op] [b] pos) (tTest (tOp r ta tb)) := by
  intro pins s σ H Q I h
  refine wpAny_isTrue_Compare1 (thn (ha pins s σ H _ I h) fun v s1 ⟨x, H1, I1, r1, q1⟩ => thn (hb pins s1 σ H1 _ I1 q1) fun u s2 ⟨y, H2, I2, r2, q2⟩ =>
    thn (ho pins s2 σ H2 x y v u _ I2 r1 r2 q2) fun c s3 ⟨z, H3, I3, r3, k, e, q3⟩ => ?_) hm
  subst e
  cases r3
  exact wpAny_truthy_bool ⟨H3, I3, q3⟩
def TruV (K : PySem.W.Frag) (x : V) (H : Hp) (k : Bool) : Prop :=
  match x with
  | .non => k = false
  | .bl b => k = b
  | .int i => k = (i != 0)
  | .str y => y.length ≤ sizeLine ∧ k = ((y.length : Int) != 0)
  | .byt y => y.size ≤ sizeLine ∧ k = ((y.size : Int) != 0)
  | .ref p => (∃ xs, SqL K H p xs ∧ k = !xs.isEmpty) ∨ (∃ xs, SqT K H p xs ∧ k = !xs.isEmpty) ∨ ∃ kvs, H p = some (.dK kvs) ∧ k = !kvs.isEmpty
  | _ => False
theorem isEmpty_kv {κ : Type} {kvs : List (κ × V)} {vs : List (κ × Value)} (r : KV kvs vs) : (!vs.isEmpty) = !kvs.isEmpty := by
  cases r <;> rfl
theorem isEmpty_of {xs : List V} {its : List Value} (r : Vals xs its) : (!its.toArray.isEmpty) = !xs.isEmpty := by
  cases r <;> simp
theorem line63 : (sizeLine : Nat) < 2 ^ 63 := by rw [sizeLine_eq]; decide
theorem tru_ok : TruR X (fun x H Q => ∃ k, TruV X.K x H k ∧ Q k H) := by
  intro pins s σ H x v Q I rx h
  obtain ⟨k, e, q⟩ := h
  have hl := line63
  have hs : sizeLine = 16777216 := sizeLine_eq
  cases x with
  | non =>
    cases rx
    have e' : k = false := e
    subst e'
    exact truthy_none ⟨H, I, q⟩
  | bl b =>
    cases rx
    have e' : k = b := e
    subst e'
    exact wpAny_truthy_bool ⟨H, I, q⟩
  | int i =>
    obtain ⟨t, rfl⟩ := rx
    have e' : k = (i != 0) := e
    subst e'
    exact PySem.P.truthy_int ⟨H, I, q⟩
  | str y =>
    obtain ⟨t, rfl⟩ := rx
    obtain ⟨hy, e'⟩ : y.length ≤ sizeLine ∧ k = ((y.length : Int) != 0) := e
    subst e'
    exact PySem.P.truthy_str (by omega) ⟨H, I.tok _, q⟩
  | byt y =>
    obtain ⟨t, rfl⟩ := rx
    obtain ⟨hy, e'⟩ : y.size ≤ sizeLine ∧ k = ((y.size : Int) != 0) := e
    subst e'
    exact PySem.W.truthy_bytes (by omega) ⟨H, I.tok _, q⟩
  | ref p =>
    cases rx
    have e' : (∃ xs, SqL X.K H p xs ∧ k = !xs.isEmpty) ∨ (∃ xs, SqT X.K H p xs ∧ k = !xs.isEmpty) ∨ ∃ kvs, H p = some (.dK kvs) ∧ k = !kvs.isEmpty := e
    rcases e' with ⟨xs, hx, e'⟩ | ⟨xs, hx, e'⟩ | ⟨kvs, hx, e'⟩
    · subst e'
      obtain ⟨its, r, pl, hz⟩ := I.list hx
      have hlen := r.length
      exact wpAny_truthy_list pl.isList (by simp only [List.size_toArray]; omega) ⟨H, I.tok _, by rw [isEmpty_of r]; exact q⟩
    · subst e'
      obtain ⟨its, r, pl, hz⟩ := I.tuple hx
      have hlen := r.length
      exact truthy_tuple pl (by simp only [List.size_toArray]; omega) ⟨H, I.tok _, by rw [isEmpty_of r]; exact q⟩
    · subst e'
      obtain ⟨hz, hS, vs, r, m⟩ : kvs.length ≤ sizeLine ∧ (p == sysModules) = false ∧ ∃ vs, KV kvs vs ∧ s.heap.DictOf (mixKind X.prog X.w) p vs := I.hok p _ hx
      have hlen : kvs.length = vs.length := Paired.length r
      exact wpAny_truthy_dict hS m (by omega) ⟨H, I.tok _, by rw [isEmpty_kv r]; exact q⟩
  | _ => exact (show False from e).elim
theorem pt_truth (ha : PE X a ta) (he : ∀ whole, isTrue a X.env whole = (do let v ← whole; standAt a.pos; holding [v] (truthy v))) :
    PT X a (fun σ H Q => ta σ H fun x H' => ∃ k, TruV X.K x H' k ∧ Q k H') := by
  intro pins s σ H Q I h
  exact isTrue_plain (thn (ha pins s σ H _ I h) fun v s1 ⟨x, H1, I1, r1, q1⟩ => tru_ok pins s1 σ H1 x v Q I1 r1 q1) (he _)
theorem op_add_str : OpR X (binaryOp .Add) (fun x y H Q => ∃ i j, x = .str i ∧ y = .str j ∧ i.length + j.length ≤ sizeLine ∧ Q (.str (i ++ j)) H) := by
  intro pins s σ H x y v u Q I rx ry h
  obtain ⟨i, j, rfl, rfl, hz, q⟩ := h
  obtain ⟨t, rfl⟩ := rx
  obtain ⟨t', rfl⟩ := ry
  exact add_str (fun t' tk => ⟨.str (i ++ j), H, I.tok _, ⟨_, rfl⟩, q⟩) hz
theorem vals1 {x : V} {us : List Value} (r : Vals [x] us) : ∃ u, us = [u] ∧ RelV x u := by
  cases r with
  | cons r1 r2 => cases r2; exact ⟨_, rfl, r1⟩
theorem vals2 {x y : V} {us : List Value} (r : Vals [x, y] us) : ∃ u w', us = [u, w'] ∧ RelV x u ∧ RelV y w' := by
  cases r with
  | cons r1 r2 =>
    cases r2 with
    | cons r3 r4 => cases r4; exact ⟨_, _, rfl, r1, r3⟩
theorem call_max2 (hc : X.calm = true) : CallR X (.builtin "max") (fun xs H Q => ∃ i j, xs = [.int i, .int j] ∧ Q (.int (if j > i then j else i)) H) := by
  intro pins s σ H xs us Q I r h
  obtain ⟨i, j, rfl, q⟩ := h
  obtain ⟨u, w', rfl, ⟨t, rfl⟩, ⟨t', rfl⟩⟩ := vals2 r
  refine max_two_ints (I.ok.hd hc) fun h' tk k => ⟨_, H, I.kept k, ?_, q⟩
  by_cases hj : j > i
  · rw [if_pos hj, if_pos hj]; exact ⟨_, rfl⟩
  · rw [if_neg hj, if_neg hj]; exact ⟨_, rfl⟩
theorem call_int1 : CallR X (.type "int") (fun xs H Q => (∃ i, xs = [.int i] ∧ Q (.int i) H) ∨ ∃ k, xs = [.bl k] ∧ Q (.int (if k then 1 else 0)) H) := by
  intro pins s σ H xs us Q I r h
  rcases h with ⟨i, rfl, q⟩ | ⟨k, rfl, q⟩
  · obtain ⟨u, rfl, t, rfl⟩ := vals1 r
    exact call_int_int ⟨.int i, H, I, ⟨_, rfl⟩, q⟩
  · obtain ⟨u, rfl, r1⟩ := vals1 r
    cases r1
    exact call_int_bool ⟨.int (if k then 1 else 0), H, I.tok _, ⟨_, rfl⟩, q⟩
end
end L2
namespace L2
open PySem PySem.Spec PyProof.Rows
structure ObjM (h : Heap) (x dx C : Addr) (mA : Str → Option Value) : Prop where
  obj : h.get? x = some (PySem.W.instObj C dx)
  ns : h.Ns1 dx mA
  ne : dx ≠ x
theorem lookIn_ns {h : Heap} {dx : Addr} {mA : Str → Option Value} (n : h.Ns1 dx mA) : ∃ od, h.get? dx = some od ∧ ∀ name, PySem.W.lookIn name od = some (mA name) := by
  obtain ⟨o, es, ep, ho, hd, hk, _, hm⟩ := n
  refine ⟨o, ho, fun name => ?_⟩
  have e := hm name
  unfold nsFind findBy at e
  rw [← Array.find?_toList] at e
  unfold PySem.W.lookIn
  rw [hd]
  dsimp only
  split
  · rename_i y q
    rw [q] at e
    exact congrArg some e
  · rename_i q
    rw [q] at e
    have a : es.toList.any (·.refKey) = false := by
      rw [List.any_eq_false]
      intro y hy
      obtain ⟨z, t, hkey⟩ := hk y (Array.mem_toList_iff.mp hy)
      simp [DictEntry.refKey, hkey]
    have a' : ¬ es.toList.any (·.refKey) = true := by rw [a]; exact Bool.false_ne_true
    rw [if_neg a']
    exact congrArg some e
theorem ObjM.look {h : Heap} {x dx C : Addr} {mA : Str → Option Value} (I : ObjM h x dx C mA) : ∃ od, PySem.W.InstAt h x (PySem.W.instObj C dx) C (some od) ∧ ∀ name, PySem.W.lookIn name od = some (mA name) :=
  let ⟨od, ho, hl⟩ := lookIn_ns I.ns
  ⟨od, ⟨I.obj, rfl, rfl, ho⟩, hl⟩
section
variable {prog : Program} {w : World} {A : Around} {E : Value → Shared → Prop} {s : Shared} {K : PySem.W.Frag} {x dx C f : Addr} {mA : Str → Option Value} {name : Str} {v : Value}
end
theorem RelO.some_of {v : V} {o : Option Value} (r : RelO (some v) o) : ∃ u, o = some u ∧ RelV v u := by
  cases o with
  | none => exact (show False from r).elim
  | some u => exact ⟨u, rfl, r⟩
section
variable {P : Program} {w : World} {H H' : Hp} {h h' : Heap} {a C dx : Addr} {fs fs' : List (Str × V)}
end
structure Cls (K : PySem.W.Frag) (C : Addr) : Prop where
  pg : PySem.W.plainGet K C Str.empty = true
  hd : PySem.W.hasDictIn K C = true
  po : PySem.W.plainOver K C = true
  sa : PySem.W.findIn K (.ref C) "__setattr__" = some (some (.builtin "object.__setattr__"))
theorem Cls.get {K : PySem.W.Frag} {C : Addr} (c : Cls K C) (f : Str) : PySem.W.plainGet K C f = true := c.pg
section
variable {X : Cx} {pins : List (Addr × Obj)} {σ : St} {H : Hp} {s : Shared} {a C dx : Addr} {fs : List (Str × V)} {f : Str} {v : V} {A : Around} {E : Value → Shared → Prop}
theorem Inv.made (I : Inv X pins σ H s) : Inv X pins σ (upd (upd H s.heap.objs.size (.own (s.heap.objs.size + 1))) (s.heap.objs.size + 1) (.ins C s.heap.objs.size []))
    { s with heap := (s.heap.push PySem.W.emptyDict).push (PySem.W.instObj C s.heap.objs.size) } := by
  have e1 : (s.heap.push PySem.W.emptyDict).get? s.heap.objs.size = some PySem.W.emptyDict := Heap.get?_push_size s.heap rfl
  have e2 : ((s.heap.push PySem.W.emptyDict).push (PySem.W.instObj C s.heap.objs.size)).get? (s.heap.objs.size + 1) = some (PySem.W.instObj C s.heap.objs.size) := by
    have := Heap.get?_push_size (s.heap.push PySem.W.emptyDict) (o := PySem.W.instObj C s.heap.objs.size) rfl
    rwa [Heap.size_push] at this
  have e3 : (s.heap.push PySem.W.emptyDict).Ns s.heap.objs.size (fun _ => none) := ⟨PySem.W.emptyDict, #[], _, e1, rfl, (fun e he => absurd he (by simp)), fun _ => rfl⟩
  have I1 := I.laid (a := s.heap.objs.size) (o := .own (s.heap.objs.size + 1)) (h' := s.heap.push PySem.W.emptyDict) (t' := s.toks) (fun b u q => Heap.get?_push_of_some _ q) (Nat.le_refl _) ⟨_, e1⟩
  refine I1.laid (a := s.heap.objs.size + 1) (o := .ins C s.heap.objs.size []) (t' := s.toks) (fun b u q => Heap.get?_push_of_some _ q) (Nat.le_of_eq (Heap.size_push _ _)) ?_
  have ne : s.heap.objs.size ≠ s.heap.objs.size + 1 := Nat.ne_of_lt (Nat.lt_succ_self _)
  refine ⟨by rw [upd_ne ne, upd_same], Nat.zero_le _, ne, e2, fun _ => none, (Heap.Ns1.of_empty e3).at fun o q => Heap.get?_push_of_some _ q, fun _ => True.intro, fun y hy => absurd rfl hy⟩
end
section
variable {X : Cx} {o e value : Expr} {f : Str} {pos pos' tpos : Pos} {ta tv : TE}
def rAdd : V → V → Hp → VK → Prop := fun x y H Q => ∃ i j, x = .int i ∧ y = .int j ∧ Q (.int (i + j)) H
def rSub : V → V → Hp → VK → Prop := fun x y H Q => ∃ i j, x = .int i ∧ y = .int j ∧ Q (.int (i - j)) H
end
section
variable {X : Cx} {pins : List (Addr × Obj)} {σ : St} {H : Hp} {s : Shared} {A : Around} {E : Value → Shared → Prop} {Q : Value → Shared → Prop} {c : Value} {b : Bool}
inductive TyOf (K : PySem.W.Frag) (H : Hp) : V → Value → Prop where
  | non : TyOf K H .non (.type "NoneType")
  | bl (x : Bool) : TyOf K H (.bl x) (.type "bool")
  | int (i : Int) : TyOf K H (.int i) (.type "int")
  | str (x : Str) : TyOf K H (.str x) (.type "str")
  | flt (x : UInt64) : TyOf K H (.flt x) (.type "float")
  | lst {a : Addr} {xs : List V} (e : H a = some (.lst xs)) : TyOf K H (.ref a) (.type "list")
  | frz {a : Addr} {o : Obj} {xs : List V} (e : H a = some (.frz o (.lst xs))) : TyOf K H (.ref a) (.type "list")
  | tup {a : Addr} {xs : List V} (e : H a = some (.tup xs)) : TyOf K H (.ref a) (.type "tuple")
  | dK {a : Addr} {kvs : List (Key × V)} (e : H a = some (.dK kvs)) : TyOf K H (.ref a) (.type "dict")
  | dT {a : Addr} {kvs : List (List Key × V)} (e : H a = some (.dT kvs)) : TyOf K H (.ref a) (.type "dict")
  | ins {a C dx : Addr} {fs : List (Str × V)} (e : H a = some (.ins C dx fs)) (cl : Cls K C) (ha : PySem.W.findIn K (.ref C) "__class__" = some (some (.builtin "object.__class__")))
      (hn : PySem.W.specialIn K (.builtin "object.__class__") "__get__" = some (some (.builtin "getset_descriptor.__get__"))) (htk : PySem.W.takesIn K (.builtin "object.__class__") = some true)
      (hm : PySem.W.mroIn K C (.type "object") = some true) : TyOf K H (.ref a) (.ref C)
end
end L2
namespace L2
open PySem PySem.Spec PyProof.Rows
structure Room (k : Nat) (A : Around) : Prop where
  hd : A.handled = none
  dp : A.depth + 3 * k + 5 < recursionLimit
  un : A.units + 16 * k + 200 < cLine
theorem Room.mono {j k : Nat} {A : Around} (r : Room k A) (h : j ≤ k) : Room j A := ⟨r.hd, by have := r.dp; omega, by have := r.un; omega⟩
theorem Room.deeper {k : Nat} {A : Around} (r : Room (k + 1) A) (env : Env) : Room k (A.deeper env) :=
  ⟨r.hd, by have := r.dp; show A.depth + 1 + 3 * k + 5 < _; omega, by have := r.un; show A.units + 3 + 16 * k + 200 < _; omega⟩
theorem Room.in1 {k : Nat} {A : Around} (r : Room (k + 1) A) : Room k A.in1 :=
  ⟨r.hd, by have := r.dp; show A.depth + 3 * k + 5 < _; omega, by have := r.un; show A.units + 1 + 16 * k + 200 < _; omega⟩
theorem Room.depth {k : Nat} {A : Around} (r : Room k A) : A.depth < recursionLimit := by have := r.dp; omega
theorem Room.units {k : Nat} {A : Around} (r : Room k A) : A.units + 64 < cLine := by have := r.un; omega
def tNil : TA := fun _ H Q => Q [] H
def tCons (ta : TE) (tr : TA) : TA := fun σ H Q => ta σ H fun x H1 => tr σ H1 fun xs H2 => Q (x :: xs) H2
section
variable {X : Cx} {e : Expr} {es : List Expr} {te : TE} {t : TA} {pos : Pos}
theorem pa_nil : PA X [] tNil := fun _ _ _ _ H Q I h => Calls.spliced_nil ⟨[], H, I, .nil, h⟩
theorem pa_cons (ha : PE X e te) (hr : PA X es t) (hs : starEach (e :: es) X.env = (false, eval e X.env) :: starEach es X.env := by rfl) : PA X (e :: es) (tCons te t) := by
  intro pos pins s σ H Q I h
  rw [hs]
  show wpAny _ _ (spliced ((false, eval e X.env) :: backTo pos (starEach es X.env))) _ _ s
  refine Calls.spliced_cons (thn (ha pins s σ H _ I h) fun u s1 ⟨x, H1, I1, r1, q1⟩ => ?_)
  exact thn (hr pos pins s1 σ H1 _ I1 q1) fun us s2 ⟨xs, H2, I2, r2, q2⟩ => ⟨x :: xs, H2, I2, .cons r1 r2, q2⟩
end
abbrev Sp := List V → Hp → VK → XK → Prop
abbrev CXT := List Env → Hp → Shared → XK → Value → Shared → Prop
structure Env0 (P : Program) (w : World) (K : PySem.W.Frag) (mg : Str → Option Value) (base : Heap) (A : Around) (outer : List Env) (s : Shared) (H : Hp) : Prop where
  frames : A.frames = some outer
  mod : Mod K mg base
  bs : ∀ b o, base.get? b = some o → s.heap.get? b = some o ∧ H b = none
  bsz : base.objs.size ≤ s.heap.objs.size
  funs : s.heap.FunFrames base outer
  frf : ∀ b ∈ frs outer, H b = none
  hok : HOk P w H s.heap
  bare : AllBare s.gens
def CE (outer : List Env) (P : Program) (w : World) (H : Hp) (s : Shared) (Q : VK) (u : Value) (s' : Shared) : Prop :=
  ∃ v H', s'.os = s.os ∧ AllBare s'.gens ∧ Un (frs outer) [] H H' s.heap s'.heap ∧ HOk P w H' s'.heap ∧ RelV v u ∧ Q v H'
def CR (CX : CXT) (outer : List Env) (P : Program) (w : World) (H : Hp) (s : Shared) (Q : VK) (E : XK) (r : Result) (s' : Shared) : Prop :=
  match r with
  | .ok (.ret u) => CE outer P w H s Q u s'
  | .ok _ => False
  | .error e => CX outer H s E e s'
structure FnOk (P : Program) (w : World) (K : PySem.W.Frag) (mg : Str → Option Value) (base : Heap) (CX : CXT) (k : Nat) (f : Addr) (fd : FuncData) (ps : List Str) (sp : Sp) : Prop where
  len : ∀ vs H Q E, sp vs H Q E → vs.length = ps.length
  run : ∀ (A : Around) (outer : List Env) (s : Shared) (H : Hp) (args : Args) (us : List Value) (vs : List V) (Q : VK) (E : XK), Room k A → Env0 P w K mg base A outer s H → BindsTo s fd args (ps.zip us) → Vals vs us → sp vs H Q E →
    codeAny (model P w) A (.call (.ref f) args) (CR CX outer P w H s Q E) s
theorem FnOk.mono {P : Program} {w : World} {K : PySem.W.Frag} {mg : Str → Option Value} {base : Heap} {CX : CXT} {j k : Nat} {f : Addr} {fd : FuncData} {ps : List Str} {sp : Sp} (F : FnOk P w K mg base CX j f fd ps sp) (h : j ≤ k) :
    FnOk P w K mg base CX k f fd ps sp := ⟨F.len, fun A outer s H args us vs Q E hr => F.run A outer s H args us vs Q E (hr.mono h)⟩
theorem FnOk.imp {P : Program} {w : World} {K : PySem.W.Frag} {mg : Str → Option Value} {base : Heap} {CX : CXT} {k : Nat} {f : Addr} {fd : FuncData} {ps : List Str} {sp sp' : Sp} (F : FnOk P w K mg base CX k f fd ps sp)
    (h : ∀ vs H Q E, sp' vs H Q E → sp vs H Q E) : FnOk P w K mg base CX k f fd ps sp' :=
  ⟨fun vs H Q E q => F.len vs H Q E (h _ _ _ _ q), fun A outer s H args us vs Q E hr he hb hv hs => F.run A outer s H args us vs Q E hr he hb hv (h _ _ _ _ hs)⟩
theorem Env0.in1 {P : Program} {w : World} {K : PySem.W.Frag} {mg : Str → Option Value} {base : Heap} {A : Around} {outer : List Env} {s : Shared} {H : Hp} (e : Env0 P w K mg base A outer s H) :
    Env0 P w K mg base A.in1 outer s H := ⟨e.frames, e.mod, e.bs, e.bsz, e.funs, e.frf, e.hok, e.bare⟩
section
variable {X : Cx} {pins : List (Addr × Obj)} {σ : St} {H : Hp} {s s' : Shared}
theorem Inv.env0 (I : Inv X pins σ H s) : Env0 X.prog X.w X.K X.mg X.base X.A X.stack s H :=
  ⟨I.ok.frames, I.ok.mod, I.bs, Nat.le_trans I.ok.bsz I.sz, I.stack, I.stkFree, I.hok, I.bare⟩
theorem Inv.after {Q : VK} {u : Value} (I : Inv X pins σ H s) (h : CE X.stack X.prog X.w H s Q u s') : EP X pins σ Q u s' := by
  obtain ⟨v, H', os, bare, un, hok, r, q⟩ := h
  obtain ⟨hh, g, d, t, os'⟩ := s'
  obtain rfl : os' = s.os := os
  exact ⟨v, H', I.call (h' := hh) (g' := g) (d' := d) (t' := t) (ch := []) un hok bare (fun b z => absurd z (by simp)), r, q⟩
end
def tCall (sp : Sp) (dvs : List V) (E : XK) (t : TA) : TE := fun σ H Q => t σ H fun vs H1 => sp (vs ++ dvs) H1 Q E
def Binds (K : PySem.W.Frag) (fd : FuncData) (ps : List Str) (ds : List Value) : Prop :=
  ∀ (s : Shared) (us : List Value), K.In s.heap → (us ++ ds).length = ps.length → BindsTo s fd ⟨us, []⟩ (ps.zip (us ++ ds))
theorem Binds.all {K : PySem.W.Frag} {fd : FuncData} {ps : List Str} (h : ∀ us : List Value, us.length = ps.length → bindArgs fd ⟨us, []⟩ = pure (ps.zip us)) : Binds K fd ps [] := fun s us _ hl => by
  rw [List.append_nil] at hl ⊢
  exact .of_eq (h us hl)
def Passes (CX : CXT) (X : Cx) (E : XK) : Prop := ∀ (pins : List (Addr × Obj)) (σ : St) (H : Hp) (s : Shared) (e : Value) (s' : Shared), Inv X pins σ H s → CX X.stack H s E e s' → X.xe e s'
section
variable {X : Cx} {CX : CXT} {k : Nat} {f C : Addr} {fd : FuncData} {ps : List Str} {sp : Sp} {dvs : List V} {ds : List Value} {E : XK} {x m : Str} {p pos apos : Pos} {e o : Expr} {es : List Expr} {ta : TE} {t : TA}
theorem run_fn {pins : List (Addr × Obj)} {σ : St} {H : Hp} {s : Shared} {Q : VK} {us : List Value} {vs : List V} (F : FnOk X.prog X.w X.K X.mg X.base CX k f fd ps sp) (hr : Room k X.A) (hb : Binds X.K fd ps ds) (hd : Vals dvs ds) (hx : Passes CX X E)
    (I : Inv X pins σ H s) (r : Vals vs us) (h : sp (vs ++ dvs) H Q E) : wpAny (model X.prog X.w) X.A (call (.ref f) us) (EP X pins σ Q) X.xe s := by
  have r2 : Vals (vs ++ dvs) (us ++ ds) := r.append hd
  have hl : (us ++ ds).length = ps.length := by rw [← r2.length]; exact F.len _ _ _ _ h
  refine wpAny_call (codeAny_mono (F.run X.A X.stack s H ⟨us, []⟩ (us ++ ds) (vs ++ dvs) Q E hr I.env0 (hb s us I.kIn hl) r2 h) fun r s' hq => ?_)
  cases r with
  | error e => exact hx pins σ H s e s' I hq
  | ok fl =>
    cases fl with
    | ret u => exact I.after hq
    | next => exact False.elim hq
    | brk => exact False.elim hq
    | cont => exact False.elim hq
theorem pe_call (F : FnOk X.prog X.w X.K X.mg X.base CX k f fd ps sp) (hr : Room k X.A) (hg : Gl X x) (hm : X.mg x = some (.ref f)) (hk : PySem.W.keepIn X.K (.ref f) = true) (hb : Binds X.K fd ps ds) (hd : Vals dvs ds) (hx : Passes CX X E)
    (ha : PA X (e :: es) t) (hdb : (x == ("__debug__" : Str)) = false := by decide) (he : starEach (e :: es) X.env = (false, eval e X.env) :: starEach es X.env := by rfl) (hpl : (backTo pos (starEach es X.env)).any (·.1) = false := by rfl) :
    PE X (.Call (.Name x p) (e :: es) [] pos) (tCall sp dvs E t) := by
  intro pins s σ H Q I h
  refine wpAny_Call_Name_kw (ld_glob I hg hm ?_ hdb)
  refine PySem.W.callWith_K (h₀ := X.base) I.ok.mod.kin hk (thn (ha pos pins s σ H _ I h) fun us s1 ⟨vs, H1, I1, r, q⟩ => ⟨I1.kIn, ?_⟩) he hpl
  exact run_fn F hr hb hd hx I1 r q
end
section
variable {X : Cx} {CX : CXT} {k : Nat} {f C : Addr} {fd : FuncData} {ps ks : List Str} {sp : Sp} {E : XK} {x m : Str} {p pos apos kpos : Pos} {e o : Expr} {es : List Expr} {kws : List Keyword} {te ta : TE} {t tk : TA} {nm : Option Str}
variable {g : List Value → List Value → List Value} {gV : List V → List V → List V}
end
structure FnScope (N P : List Str) (sc : Scope) : Prop where
  kind : sc.kind = .function
  co : sc.isCoroutine = false
  gen : sc.isGenerator = false
  nd : N.Nodup
  pre : N.take P.length = P
  par : ∀ x ∈ P, sc.names.lookup x = some .local ∨ sc.names.lookup x = some .cell
  nofree : ∀ y ∈ sc.names, y.2 ≠ .free
theorem bindL_out {kindOf : Str → Option NameKind} {x : Str} : ∀ {binds : List (Str × Value)} {m : Str → Option Value}, (∀ v, (x, v) ∉ binds) → bindL kindOf binds m x = m x
  | [], _, _ => rfl
  | (n, v) :: r, m, h => by
    unfold bindL
    rw [bindL_out fun w hw => h w (List.mem_cons_of_mem _ hw)]
    split
    · have : x ≠ n := by rintro rfl; exact h v List.mem_cons_self
      simp [this]
    · rfl
theorem bindC_out {kindOf : Str → Option NameKind} {x : Str} : ∀ {binds : List (Str × Value)} {m : Str → Option Value}, (∀ v, (x, v) ∉ binds) → bindC kindOf binds m x = m x
  | [], _, _ => rfl
  | (n, v) :: r, m, h => by
    unfold bindC
    rw [bindC_out fun w hw => h w (List.mem_cons_of_mem _ hw)]
    split
    · rfl
    · have : x ≠ n := by rintro rfl; exact h v List.mem_cons_self
      simp [this]
theorem bindL_get {kindOf : Str → Option NameKind} {x : Str} {v : Value} : ∀ {P : List Str} {vs : List Value} {i : Nat} {m : Str → Option Value}, P.Nodup → P[i]? = some x → vs[i]? = some v → kindOf x = some .local →
    bindL kindOf (P.zip vs) m x = some v
  | [], _, _, _, _, h, _, _ => by simp at h
  | _ :: _, [], _, _, _, _, h, _ => by simp at h
  | p :: P, w :: vs, 0, m, nd, h1, h2, hk => by
    simp at h1 h2; subst h1; subst h2
    show bindL kindOf ((p, w) :: P.zip vs) m p = _
    unfold bindL
    rw [bindL_out fun v hv => (List.nodup_cons.mp nd).1 (List.of_mem_zip hv).1, if_pos hk]
    simp
  | p :: P, w :: vs, i + 1, m, nd, h1, h2, hk => by
    show bindL kindOf ((p, w) :: P.zip vs) m x = _
    unfold bindL
    exact bindL_get (i := i) (List.nodup_cons.mp nd).2 (by simpa using h1) (by simpa using h2) hk
theorem bindC_get {kindOf : Str → Option NameKind} {x : Str} {v : Value} : ∀ {P : List Str} {vs : List Value} {i : Nat} {m : Str → Option Value}, P.Nodup → P[i]? = some x → vs[i]? = some v → kindOf x ≠ some .local →
    bindC kindOf (P.zip vs) m x = some v
  | [], _, _, _, _, h, _, _ => by simp at h
  | _ :: _, [], _, _, _, _, h, _ => by simp at h
  | p :: P, w :: vs, 0, m, nd, h1, h2, hk => by
    simp at h1 h2; subst h1; subst h2
    show bindC kindOf ((p, w) :: P.zip vs) m p = _
    unfold bindC
    rw [bindC_out fun v hv => (List.nodup_cons.mp nd).1 (List.of_mem_zip hv).1, if_neg hk]
    simp
  | p :: P, w :: vs, i + 1, m, nd, h1, h2, hk => by
    show bindC kindOf ((p, w) :: P.zip vs) m x = _
    unfold bindC
    exact bindC_get (i := i) (List.nodup_cons.mp nd).2 (by simpa using h1) (by simpa using h2) hk
def start (N : List Str) (vs : List V) : St := vs.map some ++ List.replicate (N.length - vs.length) none
def cxOf (CX : CXT) (P : Program) (w : World) (K : PySem.W.Frag) (mg : Str → Option Value) (base : Heap) (N : List Str) (qual : Str) (scope : Scope) (f : Addr) (cd : Value) (A : Around) (outer : List Env) (s : Shared) (H : Hp) (E : XK) : Cx where
  prog := P
  w := w
  K := K
  mg := mg
  base := base
  A := A.deeper (envOfC qual scope s.heap.objs.size f cd)
  N := N
  s₀ := s
  H₀ := H
  env := envOfC qual scope s.heap.objs.size f cd
  outer := outer
  stack := envOfC qual scope s.heap.objs.size f cd :: outer
  ex := []
  calm := true
  fn := fun _ => true
  pn := []
  xe := fun e s' => wpAny (model P w) (A.deeper (envOfC qual scope s.heap.objs.size f cd)) (leaving (envOfC qual scope s.heap.objs.size f cd) e) (fun _ s'' => CX outer H s E e s'') (fun e' s'' => CX outer H s E e' s'') s'
theorem cell_has {sc : Scope} {n : Nat} {x : Str} (h : sc.names.lookup x = some .cell) : ∃ c, (cellsFrom n sc.names []).lookup x = some c := by
  have q := PySem.W.cellsFrom_some sc.names n [] (.inl h)
  exact Option.isSome_iff_exists.mp q
theorem inv_start {CX : CXT} {P : Program} {w : World} {K : PySem.W.Frag} {mg : Str → Option Value} {base : Heap} {N ps : List Str} {qual : Str} {scope : Scope} {f : Addr} {cd : Value} {A : Around} {outer : List Env} {s s1 : Shared} {H : Hp} {E : XK} {us : List Value} {vs : List V}
    (S : FnScope N ps scope) (hd : A.handled = none) (e0 : Env0 P w K mg base A outer s H) (hl : vs.length = ps.length) (r : Vals vs us)
    (x : InCallC s s.heap.objs.size (bindL (envOfC qual scope s.heap.objs.size f cd).kindOf (ps.zip us) fun _ => none) (cellsFrom (s.heap.objs.size + 1) scope.names []) (bindC (envOfC qual scope s.heap.objs.size f cd).kindOf (ps.zip us) fun _ => none) s1) :
    Inv (cxOf CX P w K mg base N qual scope f cd A outer s H E) [] (start N vs) H s1 := by
  have hpl : ps.length ≤ N.length := by have := congrArg List.length S.pre; rw [List.length_take] at this; omega
  obtain ⟨h1, tk, rfl, hk⟩ := x.done
  have noA : ∀ b : Addr, b ∉ (cxOf CX P w K mg base N qual scope f cd A outer s H E).ex := fun b z => absurd (show b ∈ ([] : List Addr) from z) (by simp)
  refine ⟨⟨e0.mod, S.kind, rfl, rfl, Nat.le_refl _, fun y z c h1 h2 => ?_, fun y hy => ?_, fun y c _ h => ?_, fun _ => hd, Around.frames_deeper e0.frames, .inr ⟨rfl, rfl⟩, fun b z => absurd z (noA b), e0.bs, e0.bsz, fun b _ _ => noA b, fun b z => absurd z (noA b), e0.funs, e0.frf⟩,
    rfl, e0.bare, Un.kept hk, ⟨_, x.toInCall.ns, fun i y v h1 h2 h3 => ?_⟩, fun y c h => ⟨_, x.cell y c h⟩, e0.hok.fresh (Nat.le_refl _), fun y c h => ?_, fun p hp => absurd (show p ∈ ([] : List (Addr × Obj)) from hp) (by simp), e0.hok.kept hk, ?_⟩
  · exact name_of_addr x.apart (PySem.mem_of_lookup h1) (PySem.mem_of_lookup h2)
  · have hy : scope.names.lookup y = some .cell ∨ scope.names.lookup y = some .free := hy
    rcases hy with hy | hy
    · exact cell_has hy
    · exact absurd rfl (S.nofree _ (PySem.mem_of_lookup hy))
  · exact Nat.le_of_lt (x.above y c (PySem.mem_of_lookup h))
  · have hi : i < vs.length := by
      unfold start at h2
      by_cases hi : i < vs.length
      · exact hi
      · rw [List.getElem?_append_right (by simpa using hi)] at h2
        rw [List.getElem?_replicate] at h2
        split at h2 <;> cases h2
    have ha : vs[i]? = some v := by
      unfold start at h2
      rw [List.getElem?_append_left (by simpa using hi), List.getElem?_map] at h2
      cases e : vs[i]? with
      | none => rw [e] at h2; cases h2
      | some a => rw [e] at h2; cases h2; rfl
    obtain ⟨u, hu, rv⟩ := r.get ha
    have hp : ps[i]? = some y := by
      rw [← S.pre, List.getElem?_take_of_lt (by omega)]; exact h1
    have ndP : ps.Nodup := by rw [← S.pre]; exact S.nd.sublist (List.take_sublist _ _)
    refine ⟨u, rv, ?_⟩
    rcases S.par y (List.mem_of_getElem? hp) with k | k
    · exact .inl ⟨k, bindL_get ndP hp hu k⟩
    · obtain ⟨c, e⟩ := cell_has (n := s.heap.objs.size + 1) k
      refine .inr ⟨.inl k, c, e, ?_⟩
      have q := x.cell y c e
      rw [bindC_get ndP hp hu (by show scope.names.lookup y ≠ _; rw [k]; decide)] at q
      exact q
  · exact e0.hok.fresh (Nat.le_of_lt (x.above y c (PySem.mem_of_lookup h)))
  · unfold start
    show _ = N.length
    rw [List.length_append, List.length_map, List.length_replicate]
    omega
theorem fn_of {CX : CXT} {P : Program} {w : World} {K : PySem.W.Frag} {mg : Str → Option Value} {base : Heap} {k : Nat} {f : Addr} {name qual : Str} {params : Arguments} {body : List Stmt} {scope : Scope} {dV kV doc pm cdv ct oc : Value} {an od : Option Addr}
    {osl : Array (Option Value)} {N ps : List Str} {sp : Sp} (lk : K.lookup f = some ⟨oc, od, .func (PySem.W.fnOf name qual params body scope dV kV doc pm an cdv ct), osl⟩) (hcd : PySem.W.codeIn K cdv qual = true) (S : FnScope N ps scope)
    (len : ∀ vs H Q E, sp vs H Q E → vs.length = ps.length)
    (hbody : ∀ (A : Around) (outer : List Env) (s : Shared) (H : Hp) (vs : List V) (Q : VK) (E : XK), Room k (A.deeper (envOfC qual scope s.heap.objs.size f cdv)) → sp vs H Q E →
      ∃ t, PSs (cxOf CX P w K mg base N qual scope f cdv A outer s H E) body t ∧ t { nx := fun _ H' => Q .non H', rt := Q } (start N vs) H) :
    FnOk P w K mg base CX (k + 1) f (PySem.W.fnOf name qual params body scope dV kV doc pm an cdv ct) ps sp := by
  refine ⟨len, fun A outer s H args us vs Q E hr e0 hb r hsp => ?_⟩
  have hl := len _ _ _ _ hsp
  have KX : K.In s.heap := e0.mod.kin.keeps fun b o e => (e0.bs b o e).1
  have lim : s.heap.NoLimit := e0.mod.nolimit.keeps fun b o e => (e0.bs b o e).1
  have hkind : ∀ y ∈ ps.zip us, scope.names.lookup y.1 = some .local ∨ (scope.names.lookup y.1 = some .cell ∧ ((cellsFrom (s.heap.objs.size + 1) scope.names []).lookup y.1).isSome = true) := fun ⟨n, v⟩ hy => by
    rcases S.par n (List.of_mem_zip hy).1 with q | q
    · exact .inl q
    · exact .inr ⟨q, PySem.W.cellsFrom_some _ _ _ (.inl q)⟩
  refine codeAny_call_function hr.depth (KX _ _ lk) rfl S.co S.gen rfl (PySem.W.codeRec_of KX hcd) (hb _ _ _ _ ?_)
  refine wpAny_newFunctionEnv_cells S.kind hkind fun env he s1 x => ?_
  subst he
  refine ⟨lim.keeps x.toInCall.keep, codeAny_func ?_⟩
  obtain ⟨t, ht, hq⟩ := hbody A outer s H vs Q E (hr.deeper _) hsp
  have I : Inv (cxOf CX P w K mg base N qual scope f cdv A outer s H E) [] (start N vs) H s1 := inv_start S hr.hd e0 hl r x
  refine wpAny_mono (ht [] s1 (start N vs) H _ I hq) (fun fl s' hs => ?_) fun e s' hs => hs
  have fin : ∀ {σ' : St} {H' : Hp} {v : V} {u : Value}, Inv (cxOf CX P w K mg base N qual scope f cdv A outer s H E) [] σ' H' s' → RelV v u → Q v H' → CE outer P w H s Q u s' :=
    fun {σ' H' v u} J rv q => ⟨v, H', J.os, J.bare, J.base, J.hok, rv, q⟩
  cases fl with
  | ret u =>
    obtain ⟨v, σ', H', J, rv, q⟩ := hs
    exact fin J rv q
  | next =>
    obtain ⟨σ', H', J, q⟩ := hs
    exact fin (v := V.non) (u := Value.none) J rfl q
  | brk =>
    obtain ⟨_, _, _, q⟩ := hs
    exact False.elim q
  | cont =>
    obtain ⟨_, _, _, q⟩ := hs
    exact False.elim q
end L2
namespace L2
open PySem PySem.Spec PyProof.Rows
section
variable {X : Cx} {x : Str} {p pos : Pos} {e : Expr} {es : List Expr} {t : TA} {id T : String} {r : List V → Hp → VK → Prop}
def tCB (r : List V → Hp → VK → Prop) (t : TA) : TE := fun σ H Q => t σ H fun vs H1 => r vs H1 Q
theorem pe_callB (hc : CallR X (.builtin id) r) (hg : Gl X x) (hm : X.mg x = none) (hv : bootBuiltins x = some (.builtin id)) (ha : PA X (e :: es) t) (hn : x ≠ "__name__" := by decide) (hdb : (x == ("__debug__" : Str)) = false := by decide)
    (he : starEach (e :: es) X.env = (false, eval e X.env) :: starEach es X.env := by rfl) (hpl : (backTo pos (starEach es X.env)).any (·.1) = false := by rfl) : PE X (.Call (.Name x p) (e :: es) [] pos) (tCB r t) := by
  intro pins s σ H Q I h
  refine wpAny_Call_Name_kw (ld_blt I hg hm hv ?_ hn hdb)
  exact PyProof.Rows.callWith_builtin1 (thn (ha pos pins s σ H _ I h) fun us s1 ⟨vs, H1, I1, r1, q1⟩ => hc pins s1 σ H1 vs us Q I1 r1 q1) he hpl
theorem pe_callTy (hc : CallR X (.type T) r) (hg : Gl X x) (hm : X.mg x = none) (hv : bootBuiltins x = some (.type T)) (ha : PA X (e :: es) t) (hn : x ≠ "__name__" := by decide) (hdb : (x == ("__debug__" : Str)) = false := by decide)
    (he : starEach (e :: es) X.env = (false, eval e X.env) :: starEach es X.env := by rfl) (hpl : (backTo pos (starEach es X.env)).any (·.1) = false := by rfl) : PE X (.Call (.Name x p) (e :: es) [] pos) (tCB r t) := by
  intro pins s σ H Q I h
  refine wpAny_Call_Name_kw (ld_blt I hg hm hv ?_ hn hdb)
  exact PyProof.Rows.callWith_type1 (thn (ha pos pins s σ H _ I h) fun us s1 ⟨vs, H1, I1, r1, q1⟩ => hc pins s1 σ H1 vs us Q I1 r1 q1) he hpl
end
end L2
namespace L2
open PySem PySem.Spec PyProof.Rows
section
variable {κ : Type} [DecidableEq κ]
def valV (kvs : List (κ × V)) (k : κ) : Option V := (kvs.find? fun kv => decide (kv.1 = k)).map (·.2)
def putK (kvs : List (κ × V)) (k : κ) (v : V) : List (κ × V) :=
  if (kvs.any fun kv => decide (kv.1 = k)) = true then kvs.map (fun kv => if kv.1 = k then (kv.1, v) else kv) else kvs ++ [(k, v)]
def dropK (kvs : List (κ × V)) (k : κ) : List (κ × V) := kvs.filter fun kv => decide (kv.1 ≠ k)
theorem valV_pos {p : κ × V} {r : List (κ × V)} {k : κ} (e : p.1 = k) : valV (p :: r) k = some p.2 := by simp [valV, List.find?_cons, e]
theorem valV_neg {p : κ × V} {r : List (κ × V)} {k : κ} (e : ¬ p.1 = k) : valV (p :: r) k = valV r k := by simp [valV, List.find?_cons, e]
theorem valV_any (k : κ) : ∀ kvs : List (κ × V), (kvs.any fun kv => decide (kv.1 = k)) = (valV kvs k).isSome
  | [] => rfl
  | p :: r => by
    rw [List.any_cons]
    by_cases e : p.1 = k
    · simp only [valV_pos e, decide_eq_true e, Bool.true_or, Option.isSome_some]
    · rw [valV_neg e, decide_eq_false e, Bool.false_or]; exact valV_any k r
theorem valV_map (k j : κ) (y : V) : ∀ kvs : List (κ × V), valV (kvs.map fun kv => if kv.1 = k then (kv.1, y) else kv) j = (valV kvs j).map fun x => if j = k then y else x
  | [] => rfl
  | p :: r => by
    have ih := valV_map k j y r
    rw [List.map_cons]
    by_cases h : p.1 = k
    · rw [if_pos h]
      by_cases e : p.1 = j
      · rw [valV_pos (p := (p.1, y)) e, valV_pos e, Option.map_some, if_pos (e.symm.trans h)]
      · rw [valV_neg (p := (p.1, y)) e, valV_neg e, ih]
    · rw [if_neg h]
      by_cases e : p.1 = j
      · rw [valV_pos (p := p) e, valV_pos e, Option.map_some, if_neg (fun z => h (e.trans z))]
      · rw [valV_neg (p := p) e, valV_neg e, ih]
theorem valV_snoc (k j : κ) (y : V) : ∀ kvs : List (κ × V), valV kvs k = none → valV (kvs ++ [(k, y)]) j = if j = k then some y else valV kvs j
  | [], _ => by
    by_cases e : k = j
    · rw [if_pos e.symm]; exact valV_pos (p := (k, y)) e
    · rw [if_neg (fun z => e z.symm)]; exact valV_neg (p := (k, y)) e
  | p :: r, hn => by
    rw [List.cons_append]
    have hk : ¬ p.1 = k := fun z => by rw [valV_pos z] at hn; cases hn
    rw [valV_neg hk] at hn
    have ih := valV_snoc k j y r hn
    by_cases e : p.1 = j
    · rw [valV_pos e, valV_pos e, if_neg (fun z => hk (e.trans z))]
    · rw [valV_neg e, valV_neg e, ih]
theorem valV_put (kvs : List (κ × V)) (k j : κ) (y : V) : valV (putK kvs k y) j = if j = k then some y else valV kvs j := by
  unfold putK
  by_cases a : (kvs.any fun kv => decide (kv.1 = k)) = true
  · rw [if_pos a, valV_map]
    rw [valV_any] at a
    by_cases e : j = k
    · obtain ⟨x, hx⟩ := Option.isSome_iff_exists.mp a
      rw [if_pos e, e, hx, Option.map_some, if_pos rfl]
    · rw [if_neg e]
      cases valV kvs j with
      | none => rfl
      | some x => rw [Option.map_some, if_neg e]
  · rw [if_neg a]
    refine valV_snoc k j y kvs ?_
    rw [valV_any] at a
    cases q : valV kvs k with
    | none => rfl
    | some x => rw [q] at a; exact (a rfl).elim
theorem length_putK (kvs : List (κ × V)) (k : κ) (v : V) : (putK kvs k v).length ≤ kvs.length + 1 := by
  unfold putK
  split
  · rw [List.length_map]; omega
  · rw [List.length_append, List.length_cons, List.length_nil]; omega
theorem putK_new {kvs : List (κ × V)} {k : κ} (v : V) (h : valV kvs k = none) : putK kvs k v = kvs ++ [(k, v)] := by
  unfold putK
  rw [valV_any, h]
  exact if_neg (by decide)
theorem RelO.isSome_eq {o : Option V} {u : Option Value} (r : RelO o u) : o.isSome = u.isSome := by
  cases o with
  | none => cases u with
    | none => rfl
    | some _ => exact (show False from r).elim
  | some _ => cases u with
    | none => exact (show False from r).elim
    | some _ => rfl
theorem RelO.getD {o : Option V} {u : Option Value} {d : V} {d' : Value} (r : RelO o u) (rd : RelV d d') : RelV (o.getD d) (u.getD d') := by
  cases o with
  | none => cases u with
    | none => exact rd
    | some _ => exact (show False from r).elim
  | some _ => cases u with
    | none => exact (show False from r).elim
    | some _ => exact r
theorem KV.val {kvs : List (κ × V)} {vs : List (κ × Value)} (r : KV kvs vs) (k : κ) : RelO (valV kvs k) (valueAt vs k) := by
  unfold KV at r
  induction r with
  | nil => exact True.intro
  | @cons p q ps qs h t ih =>
    obtain ⟨h1, h2⟩ := h
    by_cases e : p.1 = k
    · have e' : q.1 = k := h1.symm.trans e
      have b : valueAt (q :: qs) k = some q.2 := by simp [valueAt, List.find?_cons, e']
      rw [valV_pos e, b]; exact h2
    · have e' : ¬ q.1 = k := fun z => e (h1.trans z)
      have b : valueAt (q :: qs) k = valueAt qs k := by simp [valueAt, List.find?_cons, e']
      rw [valV_neg e, b]; exact ih
theorem KV.any {kvs : List (κ × V)} {vs : List (κ × Value)} (r : KV kvs vs) (k : κ) : (kvs.any fun kv => decide (kv.1 = k)) = vs.any fun kv => decide (kv.1 = k) := by
  unfold KV at r
  induction r with
  | nil => rfl
  | cons h t ih => rw [List.any_cons, List.any_cons, ih, h.1]
theorem KV.repl {kvs : List (κ × V)} {vs : List (κ × Value)} (r : KV kvs vs) (k : κ) {y : V} {u : Value} (ry : RelV y u) :
    KV (kvs.map fun kv => if kv.1 = k then (kv.1, y) else kv) (vs.map fun kv => if kv.1 = k then (kv.1, u) else kv) := by
  unfold KV at r ⊢
  induction r with
  | nil => exact .nil
  | @cons p q ps qs h t ih =>
    rw [List.map_cons, List.map_cons]
    refine .cons ?_ ih
    obtain ⟨h1, h2⟩ := h
    by_cases e : p.1 = k
    · rw [if_pos e, if_pos (h1.symm.trans e)]; exact ⟨h1, ry⟩
    · rw [if_neg e, if_neg (fun z => e (h1.trans z))]; exact ⟨h1, h2⟩
theorem KV.put {kvs : List (κ × V)} {vs : List (κ × Value)} (r : KV kvs vs) (k : κ) {y : V} {u : Value} (ry : RelV y u) : KV (putK kvs k y) (stored vs k u) := by
  unfold putK stored
  rw [r.any k]
  by_cases e : (vs.any fun kv => decide (kv.1 = k)) = true
  · rw [if_pos e, if_pos e]; exact r.repl k ry
  · rw [if_neg e, if_neg e]; exact Paired.snoc r ⟨rfl, ry⟩
theorem KV.drop {kvs : List (κ × V)} {vs : List (κ × Value)} (r : KV kvs vs) (k : κ) : KV (dropK kvs k) (without vs k) := by
  unfold KV at r ⊢
  unfold dropK without
  induction r with
  | nil => exact .nil
  | @cons p q ps qs h t ih =>
    obtain ⟨h1, h2⟩ := h
    rw [List.filter_cons, List.filter_cons]
    by_cases e : p.1 = k
    · have a : ¬ decide (p.1 ≠ k) = true := by simp [e]
      have b : ¬ decide (q.1 ≠ k) = true := by simp [h1.symm.trans e]
      rw [if_neg a, if_neg b]; exact ih
    · have e' : ¬ q.1 = k := fun z => e (h1.trans z)
      have a : decide (p.1 ≠ k) = true := by simp [e]
      have b : decide (q.1 ≠ k) = true := by simp [e']
      rw [if_pos a, if_pos b]; exact .cons ⟨h1, h2⟩ ih
theorem KV.keys {kvs : List (κ × V)} {vs : List (κ × Value)} (r : KV kvs vs) : kvs.map (·.1) = vs.map (·.1) := by
  unfold KV at r
  induction r with
  | nil => rfl
  | cons h t ih => rw [List.map_cons, List.map_cons, ih, h.1]
theorem KV.length {kvs : List (κ × V)} {vs : List (κ × Value)} (r : KV kvs vs) : kvs.length = vs.length := Paired.length r
end
theorem kV_is {P : Program} {w : World} {k : Key} {u : Value} (r : RelV (kV k) u) : (mixKind P w).is k u = true := by
  cases k with
  | inl i => obtain ⟨t, e⟩ := (show ∃ t, u = Value.int i t from r); subst e; exact mixKind_int P w i t
  | inr x => obtain ⟨t, e⟩ := (show ∃ t, u = Value.str x t from r); subst e; exact mixKind_str P w x t
theorem items_are {P : Program} {w : World} : ∀ {ks : List Key} {us : List Value}, Vals (ks.map kV) us → ItemsAre (mixKind P w) ks us
  | [], _, r => by rw [List.map_nil] at r; cases r; exact .nil
  | k :: ks, _, r => by
    rw [List.map_cons] at r
    cases r with
    | cons h t => exact .cons (kV_is h) (items_are t)
abbrev KT (H : Hp) : List (List Key × V) → List (List Key × Addr × Value) → Prop := Paired fun p q => p.1 = q.1 ∧ H q.2.1 = some (.tup (p.1.map kV)) ∧ RelV p.2 q.2.2
theorem KT.val {H : Hp} {kvs : List (List Key × V)} {xs : List (List Key × Addr × Value)} (r : KT H kvs xs) (k : List Key) : RelO (valV kvs k) ((atKey xs k).map (·.2)) := by
  induction r with
  | nil => exact True.intro
  | @cons p q ps qs h t ih =>
    obtain ⟨h1, _, h2⟩ := h
    by_cases e : p.1 = k
    · have e' : q.1 = k := h1.symm.trans e
      have b : atKey (q :: qs) k = some q.2 := by simp [atKey, List.find?_cons, e']
      rw [valV_pos e, b]; exact h2
    · have e' : ¬ q.1 = k := fun z => e (h1.trans z)
      have b : atKey (q :: qs) k = atKey qs k := by simp [atKey, List.find?_cons, e']
      rw [valV_neg e, b]; exact ih
theorem KT.repl {H : Hp} {kvs : List (List Key × V)} {xs : List (List Key × Addr × Value)} (r : KT H kvs xs) (k : List Key) {y : V} {u : Value} (ry : RelV y u) :
    KT H (kvs.map fun kv => if kv.1 = k then (kv.1, y) else kv) (xs.map (putAt k u)) := by
  induction r with
  | nil => exact .nil
  | @cons p q ps qs h t ih =>
    rw [List.map_cons, List.map_cons]
    refine .cons ?_ ih
    obtain ⟨h1, h2, h3⟩ := h
    unfold putAt
    by_cases e : p.1 = k
    · rw [if_pos e, if_pos (h1.symm.trans e)]; exact ⟨h1, h2, ry⟩
    · rw [if_neg e, if_neg (fun z => e (h1.trans z))]; exact ⟨h1, h2, h3⟩
theorem KT.put {H : Hp} {kvs : List (List Key × V)} {xs : List (List Key × Addr × Value)} (r : KT H kvs xs) (k : List Key) {b : Addr} {y : V} {u : Value} (hb : H b = some (.tup (k.map kV))) (ry : RelV y u) :
    KT H (putK kvs k y) (storedH xs k b u) := by
  have e : (kvs.any fun kv => decide (kv.1 = k)) = (atKey xs k).isSome := by
    rw [valV_any, (r.val k).isSome_eq, Option.isSome_map]
  unfold putK storedH
  rw [e]
  by_cases q : (atKey xs k).isSome = true
  · rw [if_pos q, if_pos q]; exact r.repl k ry
  · rw [if_neg q, if_neg q]; exact Paired.snoc r ⟨rfl, hb, ry⟩
theorem KT.keeps {H H' : Hp} {kvs : List (List Key × V)} {xs : List (List Key × Addr × Value)} (r : KT H kvs xs) (ht : ∀ b ys, H b = some (.tup ys) → H' b = some (.tup ys)) : KT H' kvs xs :=
  Paired.mapP r fun _ _ z => ⟨z.1, ht _ _ z.2.1, z.2.2⟩
section
variable {P : Program} {w : World} {H : Hp} {h : Heap} {a : Addr}
theorem rd_of {u : HO} (ok : HOk P w H h) (e : Rd H a u) : ObjOk P w H h a u := e.ok ok
theorem dk_rd {kvs : List (Key × V)} (ok : HOk P w H h) (e : Rd H a (.dK kvs)) : kvs.length ≤ sizeLine ∧ (a == sysModules) = false ∧ ∃ vs, KV kvs vs ∧ h.DictOf (mixKind P w) a vs :=
  show ObjOk P w H h a (.dK kvs) from rd_of ok e
theorem dk_of {kvs : List (Key × V)} (ok : HOk P w H h) (e : H a = some (.dK kvs)) : kvs.length ≤ sizeLine ∧ (a == sysModules) = false ∧ ∃ vs, KV kvs vs ∧ h.DictOf (mixKind P w) a vs := dk_rd ok (.inl e)
theorem key_of {ks : List Key} (ok : HOk P w H h) (e : H a = some (.tup (ks.map kV))) : (tupleKind (mixKind P w)).is h ks a := by
  obtain ⟨_, its, r, o, h1, h2, n, h3⟩ := (show ObjOk P w H h a (.tup (ks.map kV)) from ok a _ e)
  exact ⟨o, its.toArray, n, h1, h2, h3, by simpa using items_are r⟩
theorem dt_rd {kvs : List (List Key × V)} (ok : HOk P w H h) (e : Rd H a (.dT kvs)) : kvs.length ≤ sizeLine ∧ (a == sysModules) = false ∧
    ∃ xs, KT H kvs xs ∧ h.DictOfH (tupleKind (mixKind P w)) a xs := by
  obtain ⟨z, y, xs, r, o, es, ep, h1, h2, h3, h4, h5⟩ := (show ObjOk P w H h a (.dT kvs) from rd_of ok e)
  refine ⟨z, y, xs, r, o, es, ep, h1, h2, h3, h4, fun x hx => ?_, h5⟩
  have all : ∀ {l : List (List Key × V)} {m : List (List Key × Addr × Value)}, KT H l m → ∀ x ∈ m, (tupleKind (mixKind P w)).is h x.1 x.2.1 := by
    intro l m q
    induction q with
    | nil => intro x hx; exact nomatch hx
    | @cons p q ps qs hq t ih =>
      intro x hx
      rcases List.mem_cons.mp hx with e | hx
      · subst e
        exact key_of ok (by rw [← hq.1]; exact hq.2.1)
      · exact ih x hx
  exact all r x hx
theorem dt_of {kvs : List (List Key × V)} (ok : HOk P w H h) (e : H a = some (.dT kvs)) : kvs.length ≤ sizeLine ∧ (a == sysModules) = false ∧
    ∃ xs, KT H kvs xs ∧ h.DictOfH (tupleKind (mixKind P w)) a xs := dt_rd ok (.inl e)
end
def DGet (H : Hp) (a : Addr) (y : V) (r : Option V) : Prop :=
  (∃ kvs k, Rd H a (.dK kvs) ∧ y = kV k ∧ r = valV kvs k) ∨ ∃ kvs k b, Rd H a (.dT kvs) ∧ y = .ref b ∧ H b = some (.tup (k.map kV)) ∧ r = valV kvs k
def DPut (H : Hp) (a : Addr) (y v : V) (H' : Hp) : Prop :=
  (∃ kvs k, H a = some (.dK kvs) ∧ y = kV k ∧ kvs.length < sizeLine ∧ H' = upd H a (.dK (putK kvs k v))) ∨
  ∃ kvs k b, H a = some (.dT kvs) ∧ y = .ref b ∧ H b = some (.tup (k.map kV)) ∧ kvs.length < sizeLine ∧ H' = upd H a (.dT (putK kvs k v))
theorem DGet.k {H : Hp} {a : Addr} {kvs : List (Key × V)} {k : Key} (e : H a = some (.dK kvs)) : DGet H a (kV k) (valV kvs k) := .inl ⟨kvs, k, .inl e, rfl, rfl⟩
theorem DGet.t {H : Hp} {a b : Addr} {kvs : List (List Key × V)} {k : List Key} (e : H a = some (.dT kvs)) (eb : H b = some (.tup (k.map kV))) : DGet H a (.ref b) (valV kvs k) := .inr ⟨kvs, k, b, .inl e, rfl, eb, rfl⟩
theorem DPut.k {H : Hp} {a : Addr} {kvs : List (Key × V)} {k : Key} {v : V} (e : H a = some (.dK kvs)) (hl : kvs.length < sizeLine) : DPut H a (kV k) v (upd H a (.dK (putK kvs k v))) := .inl ⟨kvs, k, e, rfl, hl, rfl⟩
theorem DPut.t {H : Hp} {a b : Addr} {kvs : List (List Key × V)} {k : List Key} {v : V} (e : H a = some (.dT kvs)) (eb : H b = some (.tup (k.map kV))) (hl : kvs.length < sizeLine) :
    DPut H a (.ref b) v (upd H a (.dT (putK kvs k v))) := .inr ⟨kvs, k, b, e, rfl, eb, hl, rfl⟩
section
variable {X : Cx} {pins : List (Addr × Obj)} {σ : St} {H : Hp} {s : Shared} {a : Addr} {y v : V} {u r : Value} {o : Option V} {A : Around} {E : Value → Shared → Prop}
theorem Inv.big (I : Inv X pins σ H s) : sysModules < s.heap.objs.size := by
  have h : mainGlobals < s.heap.objs.size := (I.mod.glob.keeps I.bk).lt
  exact Nat.lt_trans (by decide) h
theorem d_getItem {Q : Value → Shared → Prop} (hu : A.units + 1 < cLine) (I : Inv X pins σ H s) (g : DGet H a y (some v)) (ry : RelV y u) (h : ∀ w' s', Inv X pins σ H s' → RelV v w' → Q w' s') :
    wpAny (model X.prog X.w) A (getItem (.ref a) u) Q E s := by
  rcases g with ⟨kvs, k, e, ey, l⟩ | ⟨kvs, k, b, e, ey, eb, l⟩
  · subst ey
    obtain ⟨z, hd, vs, rel, dd⟩ := dk_rd I.hok e
    obtain ⟨w', hw, rw'⟩ := RelO.some_of (v := v) (o := valueAt vs k) (by rw [l]; exact rel.val k)
    exact wpAny_getItem_of (kV_is ry) dd.mapOf hw (h w' _ (I.tok _) rw')
  · subst ey
    cases (show u = Value.ref b from ry)
    obtain ⟨z, hd, xs, rel, dd⟩ := dt_rd I.hok e
    obtain ⟨w', hw, rw'⟩ := RelO.some_of (v := v) (o := (atKey xs k).map (·.2)) (by rw [l]; exact rel.val k)
    obtain ⟨p, hp, hp2⟩ := Option.map_eq_some_iff.mp hw
    refine wpAny_getItem_heap (tupleKind_room_in1 hu) (key_of I.hok eb) dd hp ?_
    rw [hp2]
    exact h w' _ (I.tok _) rw'
theorem d_write {h' : Heap} {t' : Nat} {ob : HO} (I : Inv X pins σ H s) (mu : Mut (H a)) (hs : Heap.SameBut a s.heap h') (he : ∃ q, h'.get? a = some q) (new : ObjOk X.prog X.w (upd H a ob) h' a ob) :
    Inv X pins σ (upd H a ob) { s with heap := h', toks := t' } :=
  I.write (x := a) (e := a) mu (.inl rfl) (fun b q hb z => (hs.2 b hb).trans z) he new
theorem dk_new {P : Program} {w : World} {H' : Hp} {h' : Heap} {kvs : List (Key × V)} {vs : List (Key × Value)} (z : kvs.length ≤ sizeLine) (hd : (a == sysModules) = false) (rel : KV kvs vs) (dd : h'.DictOf (mixKind P w) a vs) :
    ObjOk P w H' h' a (.dK kvs) := ⟨z, hd, vs, rel, dd⟩
theorem d_setItem {H' : Hp} {Q : Unit → Shared → Prop} (hu : A.units + 1 < cLine) (I : Inv X pins σ H s) (g : DPut H a y v H') (ry : RelV y u) (rv : RelV v r) (h : ∀ s', Inv X pins σ H' s' → Q () s') :
    wpAny (model X.prog X.w) A (setItem (.ref a) u r) Q E s := by
  rcases g with ⟨kvs, k, e, ey, l, eH⟩ | ⟨kvs, k, b, e, ey, eb, l, eH⟩
  · subst ey eH
    obtain ⟨z, hd, vs, rel, dd⟩ := dk_of I.hok e
    have hz : vs.length ≤ sizeLine := by rw [← rel.length]; exact z
    have hl : (putK kvs k v).length ≤ sizeLine := by have := length_putK kvs k v; omega
    refine wpAny_setItem_pairs (hsz := hz) (kV_is ry) dd fun h' dd' hs => h _ ?_
    have he : ∃ q, h'.get? a = some q := let ⟨q, _, _, hq, _⟩ := dd'; ⟨q, hq⟩
    exact d_write I (by rw [e]; exact True.intro) hs he (dk_new hl hd (rel.put k rv) dd')
  · subst ey eH
    cases (show u = Value.ref b from ry)
    obtain ⟨z, hd, xs, rel, dd⟩ := dt_of I.hok e
    have hz : xs.length ≤ sizeLine := by rw [← Paired.length rel]; exact z
    have hl : (putK kvs k v).length ≤ sizeLine := by have := length_putK kvs k v; omega
    refine wpAny_setItem_heap (hsz := hz) (tupleKind_room_in1 hu) (key_of I.hok eb) dd fun h' dd' hs => h _ ?_
    obtain ⟨q, es, ep, hq, h2, h3, h4, _, h5⟩ := dd'
    refine d_write I (by rw [e]; exact True.intro) hs ⟨q, hq⟩ ⟨hl, hd, _, (rel.put k eb rv).keeps fun c ys ec => ?_, q, es, ep, hq, h2, h3, h4, h5⟩
    rw [upd_ne (ne_of ec e (fun z => nomatch z))]
    exact ec
end
section
variable {X : Cx} {pins : List (Addr × Obj)} {σ : St} {H : Hp} {s : Shared} {a : Addr} {kvs : List (Key × V)} {k : Key} {u : Value} {A : Around} {E : Value → Shared → Prop}
end
def NoSl (i : Expr) : Prop := ∀ ov iv, subscripted i false ov iv = operate [ov, iv] (getItem ov iv)
theorem subD_of {prog : Program} {w : World} {A : Around} {E : Value → Shared → Prop} {s : Shared} {env : Env} {value slice : Expr} {pos : Pos} {T id : String} {Q : Value → Shared → Prop}
    (hl : typeLookup (.type T) "__getitem__" = pure (some (.builtin id))) (hs : NoSl slice)
    (h : wpAny (model prog w) A (eval value env) (fun o s₁ => wpAny (model prog w) A (eval slice env) (fun i s₂ => s₂.TypeIs o T ∧ wpAny (model prog w) A (getItem o i) Q E s₂) E s₁) E s) :
    wpAny (model prog w) A (eval (.Subscript value slice pos) env) Q E s := by
  refine Subscript_ (wpAny_mono h (fun o s₁ h₁ => wpAny_mono h₁ (fun i s₂ h₂ => ?_) fun _ _ x => x) fun _ _ x => x)
  obtain ⟨hT, h₂⟩ := h₂
  unfold subscriptTail
  refine wpAny_bind ?_
  rw [getitemInPython_of_ne hT.not_modules]
  refine wpAny_bind (wpAny_specialOf hT hl ?_)
  have fin : wpAny (model prog w) A (subscripted slice false o i) (fun r s₃ => wpAny (model prog w) A (letTemporaryGo value o r >>= fun _ => pure r) Q E s₃) E s₂ := by
    rw [hs o i]
    exact wpAny_operating (wpAny_mono h₂ (fun r s₃ h₃ => wpAny_bind (wpAny_letTemporaryGo (wpAny_pure h₃))) fun _ _ x => x)
  first
    | exact wpAny_pure (wpAny_bind fin)
    | exact wpAny_bind (wpAny_pure (wpAny_bind fin))
    | exact wpAny_bind fin
theorem dict_typeIs {X : Cx} {pins : List (Addr × Obj)} {σ : St} {H : Hp} {s : Shared} {a : Addr} {y : V} {o : Option V} (I : Inv X pins σ H s) (g : DGet H a y o) : s.TypeIs (.ref a) "dict" := by
  rcases g with ⟨kvs, k, e, _, _⟩ | ⟨kvs, k, b, e, _, _, _⟩
  · obtain ⟨_, _, vs, _, dd⟩ := dk_rd I.hok e
    exact dd.typeIs
  · obtain ⟨_, _, xs, _, dd⟩ := dt_rd I.hok e
    exact dd.typeIs
def tDGet (td ty : TE) : TE := fun σ H Q => td σ H fun x H1 => ty σ H1 fun y H2 => ∃ a v, x = .ref a ∧ DGet H2 a y (some v) ∧ Q v H2
def sDPut (td ty tv : TE) : TS := fun D σ H => tv σ H fun v H1 => td σ H1 fun x H2 => ty σ H2 fun y H3 => ∃ a H4, x = .ref a ∧ DPut H3 a y v H4 ∧ D.nx σ H4
section
variable {X : Cx} {o i e value : Expr} {pos pos' tpos : Pos} {td ty tv : TE}
theorem pe_dget (hu : X.A.units + 1 < cLine) (ho : PE X o td) (hi : PE X i ty) (hs : NoSl i) : PE X (.Subscript o i pos) (tDGet td ty) := by
  intro pins s σ H Q I h
  refine subD_of PySem.F.slot_dict_getitem.lookup hs (thn (ho pins s σ H _ I h) fun u s1 ⟨x, H1, I1, rx, q1⟩ => thn (hi pins s1 σ H1 _ I1 q1) fun iv s2 ⟨y, H2, I2, ry, a, v, ex, g, q2⟩ => ?_)
  subst ex
  obtain rfl : u = Value.ref a := rx
  exact ⟨dict_typeIs I2 g, d_getItem hu I2 g ry fun w' s3 I3 rw' => ⟨v, H2, I3, rw', q2⟩⟩
theorem ps_dput (hu : X.A.units + 1 < cLine) (ho : PE X o td) (hi : PE X i ty) (hv : PE X value tv) (hs : swapsWith value (some (.Subscript o i pos')) pos.line X.env = pure false) :
    PS X (.Assign [.Subscript o i pos'] value pos) (sDPut td ty tv) := by
  intro pins s σ H D I h
  refine wpAny_Assign_Subscript (thn (hv pins s σ H _ I h) fun r s1 ⟨v, H1, I1, rv, q1⟩ => thn (ho pins s1 σ H1 _ I1 q1) fun u s2 ⟨x, H2, I2, rx, q2⟩ => thn (hi pins s2 σ H2 _ I2 q2) fun iv s3 ⟨y, H3, I3, ry, a, H4, ex, g, q3⟩ => ?_) hs
  subst ex
  obtain rfl : u = Value.ref a := rx
  exact d_setItem hu I3 g ry rv fun s4 I4 => ⟨σ, H4, I4, q3⟩
end
theorem dk_empty {P : Program} {w : World} {H : Hp} (h : Heap) (hb : sysModules < h.objs.size) : ObjOk P w H (h.push { cls := .type "dict", data := .dict #[] }) h.objs.size (.dK []) :=
  ⟨Nat.zero_le _, beq_eq_false_iff_ne.mpr (Ne.symm (Nat.ne_of_lt hb)), [], .nil, Heap.DictOf.new h⟩
def tDNewK : TE := fun _ H Q => ∀ p, H p = none → Q (.ref p) (upd H p (.dK []))
section
variable {X : Cx} {pos : Pos}
theorem pe_dnewK : PE X (.Dict [] [] pos) tDNewK := fun pins s σ H Q I h =>
  wpAny_Dict_empty ⟨.ref s.heap.objs.size, _, I.laid (a := s.heap.objs.size) (o := .dK []) (t' := s.toks) (fun _ _ q => Heap.get?_push_of_some _ q) (Nat.le_refl _) (dk_empty s.heap I.big), rfl, h _ (I.hok.fresh (Nat.le_refl _))⟩
end
def tPairs : List (TE × TE) → St → Hp → (List (V × V) → Hp → Prop) → Prop
  | [], _, H, Q => Q [] H
  | (tk, tv) :: r, σ, H, Q => tk σ H fun x H1 => tv σ H1 fun y H2 => tPairs r σ H2 fun ps H3 => Q ((x, y) :: ps) H3
abbrev VV : List (V × V) → List (Value × Value) → Prop := Paired fun p q => RelV p.1 q.1 ∧ RelV p.2 q.2
def PPs (X : Cx) (pos : Pos) (keys : List (Option Expr)) (values : List Expr) (trs : List (TE × TE)) : Prop :=
  ∀ (pins : List (Addr × Obj)) (s : Shared) (σ : St) (H : Hp) (Q : List (V × V) → Hp → Prop), Inv X pins σ H s → tPairs trs σ H Q →
    wpAny (model X.prog X.w) X.A (evalPairs (pairTrees keys values X.env pos)) (fun vs s' => ∃ ps H', Inv X pins σ H' s' ∧ VV ps vs ∧ Q ps H') X.xe s
structure M2 (X : Cx) (o : Expr) (m : Str) (apos : Pos) (e f : Expr) (cpos : Pos) : Prop where
  base : attributeBase o m X.env (eval o X.env) = eval o X.env
  few : ((backTo cpos (starEach [e, f] X.env)).all (fun x => !x.1) && (backToKw cpos (keywordEach [] X.env)).all (fun x => x.1.isSome)
    && decide (([e, f] : List Expr).length + ([] : List Keyword).length + (if ([] : List Keyword).isEmpty then 0 else 1) < 30)) = true
  line : (apos.endLine == cpos.line) = true
  trees : backTo cpos (starEach [e, f] X.env) = [(false, eval e X.env), (false, eval f X.env)]
section
variable {X : Cx} {pins : List (Addr × Obj)} {σ : St} {H : Hp} {s : Shared} {a : Addr} {y d : V} {u r : Value} {o : Option V} {A : Around} {E : Value → Shared → Prop}
end
section
variable {X : Cx} {o e f : Expr} {apos cpos : Pos} {td ty tx : TE}
end
section
variable {X : Cx} {pins : List (Addr × Obj)} {σ : St} {H : Hp} {s : Shared} {a : Addr} {kvs : List (Key × V)} {A : Around} {E : Value → Shared → Prop}
end
section
variable {X : Cx} {pins : List (Addr × Obj)} {σ : St} {H : Hp} {s : Shared} {a : Addr} {y : V} {u : Value} {A : Around} {E : Value → Shared → Prop}
end
end L2
namespace HT
open PySem PyProof.Rows
section
open PySem.SeqAt
open PySem.AutoSeq1 (wpAny_loadPart')
open PySem.MeetsSeq PySem.MeetsSeq2 PySem.MeetsSeq3
end
section
variable {prog : Program} {w : World} {A : Around} {E : Value → Shared → Prop} {s : Shared}
def sIx (n d : Nat) : Option Int → Nat
  | none => d
  | some v => if v < 0 then (v + (n : Int)).toNat else min v.toNat n
theorem sIx_none (n d : Nat) : sIx n d none = d := rfl
theorem sIx_nat (n d k : Nat) : sIx n d (some (k : Int)) = min k n := by
  show (if (k : Int) < 0 then ((k : Int) + (n : Int)).toNat else min (k : Int).toNat n) = min k n
  rw [if_neg (by omega), Int.toNat_natCast]
end
end HT
namespace L2
open PySem PySem.Spec PyProof.Rows
abbrev TO := St → Hp → (Option Int → Hp → Prop) → Prop
def PO (X : Cx) (e : Option Expr) (t : TO) : Prop :=
  ∀ (pins : List (Addr × Obj)) (s : Shared) (σ : St) (H : Hp) (Q : Option Int → Hp → Prop), Inv X pins σ H s → t σ H Q →
    wpAny (model X.prog X.w) X.A (evalPart e X.env) (fun u s' => ∃ o H', Inv X pins σ H' s' ∧ IsPart u o ∧ Q o H') X.xe s
def tNoPart : TO := fun _ H Q => Q none H
def tPart (t : TE) : TO := fun σ H Q => t σ H fun x H1 => ∃ i, x = .int i ∧ Q (some i) H1
theorem intsAre_of {ns : List Int} : ∀ {us : List Value}, Vals (ns.map V.int) us → IntsAre us ns := by
  induction ns with
  | nil => intro us r; rw [List.map_nil] at r; cases r; exact .nil
  | cons n ns ih =>
    intro us r
    rw [List.map_cons] at r
    cases r with
    | cons r1 r2 =>
      obtain ⟨t, e⟩ := r1
      subst e
      exact .cons n t (ih r2)
section
variable {X : Cx} {e : Expr} {te : TE} {lo hi : Option Expr} {tl th : TO} {pos p2 : Pos}
theorem po_none : PO X none tNoPart := by
  intro pins s σ H Q I h
  rw [evalPart_none]
  exact wpAny_pure ⟨none, H, I, .none, h⟩
theorem po_some (h : PE X e te) : PO X (some e) (tPart te) := by
  intro pins s σ H Q I hw
  rw [evalPart_some]
  refine thn (h pins s σ H _ I hw) fun u s1 ⟨x, H1, I1, r1, q1⟩ => ?_
  obtain ⟨i, rfl, q⟩ := q1
  obtain ⟨t, rfl⟩ := r1
  exact ⟨some i, H1, I1, .int i t, q⟩
def SlR (X : Cx) (r : V → Option Int → Option Int → Hp → VK → Prop) : Prop :=
  ∀ (pins : List (Addr × Obj)) (s : Shared) (σ : St) (H : Hp) (x : V) (v vl vu : Value) (lo hi : Option Int) (sl : Addr) (Q : VK), Inv X pins σ H s → RelV x v → s.heap.IsSliceOf sl vl vu .none → IsPart vl lo → IsPart vu hi → r x lo hi H Q →
    ∃ T id, typeLookup (.type T) "__getitem__" = pure (some (.builtin id)) ∧ s.TypeIs v T ∧ wpAny (model X.prog X.w) X.A (getItem v (.ref sl)) (EP X pins σ Q) X.xe s
theorem SlR.or {r r' : V → Option Int → Option Int → Hp → VK → Prop} (h : SlR X r) (h' : SlR X r') : SlR X (fun x lo hi H Q => r x lo hi H Q ∨ r' x lo hi H Q) := by
  intro pins s σ H x v vl vu lo hi sl Q I rx hs pl pu q
  rcases q with q | q
  · exact h pins s σ H x v vl vu lo hi sl Q I rx hs pl pu q
  · exact h' pins s σ H x v vl vu lo hi sl Q I rx hs pl pu q
def tSl (r : V → Option Int → Option Int → Hp → VK → Prop) (te : TE) (tl th : TO) : TE := fun σ H Q => te σ H fun x H1 => tl σ H1 fun l H2 => th σ H2 fun u H3 => r x l u H3 Q
theorem pe_slice {r : V → Option Int → Option Int → Hp → VK → Prop} (hr : SlR X r) (he : PE X e te) (hl : PO X lo tl) (hu : PO X hi th) : PE X (.Subscript e (.Slice lo hi none p2) pos) (tSl r te tl th) := by
  intro pins s σ H Q I h
  refine Subscript_ (thn (he pins s σ H _ I h) fun v s1 ⟨x, H1, I1, r1, q1⟩ => ?_)
  refine wpAny_Slice (thn (hl pins s1 σ H1 _ I1 q1) fun vl s2 ⟨l, H2, I2, pl, q2⟩ => thn (hu pins s2 σ H2 _ I2 q2) fun vu s3 ⟨u, H3, I3, pu, q3⟩ => ?_)
  rw [evalPart_none]
  refine wpAny_pure ?_
  have I4 : Inv X pins σ H3 { s3 with heap := s3.heap.push { cls := .type "slice", data := .fields #[vl, vu, .none] } } := I3.kept (t' := s3.toks) fun b ob q => Heap.get?_push_of_some _ q
  obtain ⟨T, id, hT, ht, hg⟩ := hr pins { s3 with heap := s3.heap.push { cls := .type "slice", data := .fields #[vl, vu, .none] } } σ H3 x v vl vu l u s3.heap.objs.size Q I4 r1 (Heap.IsSliceOf.new ..) pl pu q3
  show wpAny (model X.prog X.w) X.A (subscriptTail e (.Slice lo hi none p2) v (.ref s3.heap.objs.size)) (EP X pins σ Q) X.xe { s3 with heap := s3.heap.push { cls := .type "slice", data := .fields #[vl, vu, .none] } }
  exact tail_any (ops := [.ref s3.heap.objs.size, v]) ht hT hg (by with_unfolding_all rfl)
def cutV (xs : List V) (lo hi : Option Int) : List V := (xs.drop (HT.sIx xs.length 0 lo)).take (HT.sIx xs.length xs.length hi - HT.sIx xs.length 0 lo)
theorem cutV_length (xs : List V) (lo hi : Option Int) : (cutV xs lo hi).length ≤ xs.length := by
  unfold cutV
  rw [List.length_take, List.length_drop]
  omega
end
end L2
namespace L2
open PySem PySem.Spec PyProof.Rows
def ixN (n : Nat) (i : Int) : Option Nat := if 0 ≤ i then (if i < n then some i.toNat else none) else if -(n : Int) ≤ i then some (i + n).toNat else none
def atI {α : Type} (xs : List α) (i : Int) : Option α := (ixN xs.length i).bind fun j => xs[j]?
theorem ixN_seq {n : Nat} {i : Int} {j : Nat} (h : ixN n i = some j) : seqIndex? i n = some j ∧ j < n ∧ -(n : Int) ≤ i ∧ i < n := by
  unfold ixN at h
  by_cases h0 : 0 ≤ i
  · rw [if_pos h0] at h
    by_cases h1 : i < n
    · rw [if_pos h1] at h
      have e : i.toNat = j := Option.some.inj h
      exact ⟨by rw [seqIndex_of h0 h1, e], by omega, by omega, h1⟩
    · rw [if_neg h1] at h; cases h
  · rw [if_neg h0] at h
    by_cases h1 : -(n : Int) ≤ i
    · rw [if_pos h1] at h
      have e : (i + n).toNat = j := Option.some.inj h
      exact ⟨by rw [seqIndex_neg (by omega) h1, e], by omega, h1, by omega⟩
    · rw [if_neg h1] at h; cases h
theorem atI_get {α : Type} {xs : List α} {i : Int} {v : α} (h : atI xs i = some v) : ∃ j, seqIndex? i xs.length = some j ∧ xs[j]? = some v ∧ j < xs.length ∧ -(xs.length : Int) ≤ i ∧ i < xs.length := by
  unfold atI at h
  cases e : ixN xs.length i with
  | none => rw [e] at h; cases h
  | some j =>
    rw [e] at h
    obtain ⟨h1, h2, h3, h4⟩ := ixN_seq e
    exact ⟨j, h1, h, h2, h3, h4⟩
theorem atI_nat {α : Type} {xs : List α} {j : Nat} {v : α} (h : xs[j]? = some v) : atI xs (j : Int) = some v := by
  have hj : j < xs.length := (List.getElem?_eq_some_iff.mp h).1
  have e : ixN xs.length (j : Int) = some j := by
    unfold ixN
    rw [if_pos (by omega), if_pos (by omega)]; simp
  unfold atI; rw [e]; exact h
def PlainIx (b : Expr) : Prop := ∀ o i, subscripted b false o i = operate [o, i] (getItem o i)
def IxR (X : Cx) (r : R2) : Prop :=
  ∀ (value slice : Expr) (pins : List (Addr × Obj)) (s : Shared) (σ : St) (H : Hp) (x y : V) (v u : Value) (Q : VK), Inv X pins σ H s → RelV x v → RelV y u → r x y H Q →
    subscripted slice false v u = operate [v, u] (getItem v u) → wpAny (model X.prog X.w) X.A (subscriptTail value slice v u) (EP X pins σ Q) X.xe s
def MtR (X : Cx) (id : String) (r : V → List V → Hp → VK → Prop) : Prop :=
  ∀ (pins : List (Addr × Obj)) (s : Shared) (σ : St) (H : Hp) (x : V) (xs : List V) (v : Value) (us : List Value) (Q : VK), Inv X pins σ H s → RelV x v → Vals xs us → r x xs H Q →
    wpAny (model X.prog X.w) X.A (call (.builtin id) (v :: us)) (EP X pins σ Q) X.xe s
section
variable {X : Cx} {a b : Expr} {ta tb : TE} {pos : Pos}
theorem IxR.or {r r' : R2} (h : IxR X r) (h' : IxR X r') : IxR X (fun x y H Q => r x y H Q ∨ r' x y H Q) := by
  intro value slice pins s σ H x y v u Q I rx ry q hs
  rcases q with q | q
  · exact h value slice pins s σ H x y v u Q I rx ry q hs
  · exact h' value slice pins s σ H x y v u Q I rx ry q hs
theorem MtR.or {id : String} {r r' : V → List V → Hp → VK → Prop} (h : MtR X id r) (h' : MtR X id r') : MtR X id (fun x xs H Q => r x xs H Q ∨ r' x xs H Q) := by
  intro pins s σ H x xs v us Q I rx rs q
  rcases q with q | q
  · exact h pins s σ H x xs v us Q I rx rs q
  · exact h' pins s σ H x xs v us Q I rx rs q
theorem pe_ix {r : R2} (hr : IxR X r) (ha : PE X a ta) (hb : PE X b tb) (hs : PlainIx b) : PE X (.Subscript a b pos) (tOp r ta tb) := by
  intro pins s σ H Q I h
  exact Subscript_ (binT ha hb I h fun v u s2 x y H2 I2 rx ry q => hr a b pins s2 σ H2 x y v u Q I2 rx ry q (hs _ _))
def rIxL (K : PySem.W.Frag) : R2 := fun x y H Q => ∃ p xs i v, x = .ref p ∧ y = .int i ∧ SqL K H p xs ∧ atI xs i = some v ∧ Q v H
def rIxT (K : PySem.W.Frag) : R2 := fun x y H Q => ∃ p xs i v, x = .ref p ∧ y = .int i ∧ SqT K H p xs ∧ atI xs i = some v ∧ Q v H
theorem ix_list : IxR X (rIxL X.K) := by
  intro value slice pins s σ H x y v u Q I rx ry h hs
  obtain ⟨p, xs, i, z, rfl, rfl, hq, he, q⟩ := h
  cases rx
  obtain ⟨t, rfl⟩ := ry
  obtain ⟨its, r, pl, hz⟩ := I.list hq
  obtain ⟨j, h1, h2, h3, h4, h5⟩ := atI_get he
  obtain ⟨w, ew, rw'⟩ := r.get h2
  have hl := r.length
  have hn := line63
  have fin : EP X pins σ Q w s := ⟨z, H, I, rw', q⟩
  by_cases h0 : 0 ≤ i
  · have hj : i.toNat = j := by
      rw [seqIndex_of h0 h5] at h1
      exact Option.some.inj h1
    exact item_listR pl.isList h0 (by omega) (by rw [hj]; simpa using ew) fin hs
  · have hj : (i + (its.toArray.size : Int)).toNat = j := by
      rw [seqIndex_neg (by omega) h4] at h1
      rw [List.size_toArray, ← hl]
      exact Option.some.inj h1
    exact subscriptTail_builtinR (x := w) pl.isList.typeIs slot_list_getitem.lookup
      (wpAny_getItem_list_neg (Q := fun r s' => r = w ∧ EP X pins σ Q r s') pl.isList (by omega) (by rw [List.size_toArray] <;> omega) (by omega) (by rw [hj]; simpa using ew) ⟨rfl, fin⟩) hs
theorem ix_tup : IxR X (rIxT X.K) := by
  intro value slice pins s σ H x y v u Q I rx ry h hs
  obtain ⟨p, xs, i, z, rfl, rfl, hq, he, q⟩ := h
  cases rx
  obtain ⟨t, rfl⟩ := ry
  obtain ⟨its, r, pl, hz⟩ := I.tuple hq
  obtain ⟨j, h1, h2, h3, h4, h5⟩ := atI_get he
  obtain ⟨w, ew, rw'⟩ := r.get h2
  have hl := r.length
  have hn := line63
  have fin : EP X pins σ Q w s := ⟨z, H, I, rw', q⟩
  exact subscriptTail_builtinR (x := w) pl.typeIs slot_tuple_getitem.lookup
    (getItem_tuple (j := j) (Q := fun r s' => r = w ∧ EP X pins σ Q r s') pl (by omega) (by omega) (by rw [List.size_toArray, ← hl]; exact h1) (by simpa using ew) ⟨rfl, fin⟩) hs
theorem mapSeq_set (its : List Value) (n j : Nat) (u : Value) : Obj.mapSeq (·.setIfInBounds j u) { cls := .type "list", data := .seq its.toArray n } = { cls := .type "list", data := .seq (its.set j u).toArray n } := by
  simp [Obj.mapSeq]
theorem Inv.lst {pins : List (Addr × Obj)} {σ : St} {H : Hp} {s : Shared} {p : Addr} {xs : List V} (I : Inv X pins σ H s) (h : H p = some (.lst xs)) :
    ∃ (its : List Value) (n : Nat), Vals xs its ∧ s.heap.get? p = some { cls := .type "list", data := .seq its.toArray n } ∧ xs.length ≤ sizeLine := by
  obtain ⟨z, its, n, r, e⟩ := I.hok p _ h
  exact ⟨its, n, r, e, z⟩
theorem Inv.lstUpd {pins : List (Addr × Obj)} {σ : St} {H : Hp} {s : Shared} {p : Addr} {xs ys : List V} {its its' : List Value} {n n' : Nat} {f : Obj → Obj} (I : Inv X pins σ H s) (h : H p = some (.lst xs))
    (ho : s.heap.get? p = some { cls := .type "list", data := .seq its.toArray n }) (hf : f { cls := .type "list", data := .seq its.toArray n } = { cls := .type "list", data := .seq its'.toArray n' }) (r : Vals ys its') (hz : ys.length ≤ sizeLine) (t : Nat) :
    Inv X pins σ (upd H p (.lst ys)) { s with heap := s.heap.update p f, toks := t } := by
  have e : (s.heap.update p f).get? p = some { cls := .type "list", data := .seq its'.toArray n' } := by
    rw [Heap.get?_update_self f ho (by rw [hf] <;> rfl), hf]
  refine I.write (x := p) (e := p) (by rw [h]; trivial) (.inl rfl) (fun b u hb q => (Heap.get?_update_other _ _ (Ne.symm hb)).trans q) ⟨_, e⟩ ?_
  exact ⟨hz, its', n', r, e⟩
def rSetL : V → V → V → Hp → (Hp → Prop) → Prop := fun o i v H Q => ∃ p xs k j, o = .ref p ∧ i = .int k ∧ H p = some (.lst xs) ∧ ixN xs.length k = some j ∧ Q (upd H p (.lst (xs.set j v)))
theorem set_list : PSet X rSetL := by
  intro pins s σ H o i v ov iv u Q I ro ri rv h
  obtain ⟨p, xs, k, j, rfl, rfl, hp, hj, q⟩ := h
  cases ro
  obtain ⟨t, rfl⟩ := ri
  obtain ⟨its, n, r, ho, hz⟩ := I.lst hp
  obtain ⟨h1, h2, h3, h4⟩ := ixN_seq hj
  have hl := r.length
  have hn := line63
  have I' : Inv X pins σ (upd H p (.lst (xs.set j v))) { s with heap := s.heap.update p (Obj.mapSeq (·.setIfInBounds j u)) } :=
    I.lstUpd hp ho (mapSeq_set its n j u) (r.set rv j) (by rw [List.length_set]; exact hz) s.toks
  by_cases h0 : 0 ≤ k
  · have hk : k.toNat = j := by
      rw [seqIndex_of h0 h4] at h1
      exact Option.some.inj h1
    exact PySem.W.ki_setAt ho h0 (by omega) (by rw [List.size_toArray, ← hl]; exact h4) (by rw [hk]; exact ⟨_, I', q⟩)
  · have hk : (k + (its.toArray.size : Int)).toNat = j := by
      rw [seqIndex_neg (by omega) h3] at h1
      rw [List.size_toArray, ← hl]
      exact Option.some.inj h1
    exact PySem.W.ki_setBack ho (by omega) (by rw [List.size_toArray, ← hl]; exact h3) (by omega) (by rw [hk]; exact ⟨_, I', q⟩)
theorem slice_bounds (lo hi : Option Int) (n : Nat) : (sliceBounds lo hi none n).1 = ((HT.sIx n 0 lo : Nat) : Int) ∧ (sliceBounds lo hi none n).2.1 = ((HT.sIx n n hi : Nat) : Int) ∧ (sliceBounds lo hi none n).2.2 = 1 := by
  refine ⟨?_, ?_, rfl⟩
  · cases lo with
    | none => simp [sliceBounds, HT.sIx]
    | some i =>
      simp only [sliceBounds, HT.sIx, Option.getD_none, show (1 : Int) > 0 by decide, if_true]
      by_cases h : i < 0
      · simp only [h, if_true] <;> omega
      · simp only [h, if_false] <;> omega
  · cases hi with
    | none => simp [sliceBounds, HT.sIx]
    | some i =>
      simp only [sliceBounds, HT.sIx, Option.getD_none, show (1 : Int) > 0 by decide, if_true]
      by_cases h : i < 0
      · simp only [h, if_true] <;> omega
      · simp only [h, if_false] <;> omega
theorem slicePick_cut (its : List Value) (lo hi : Option Int) : slicePick its.toArray lo hi none = ((its.drop (HT.sIx its.length 0 lo)).take (HT.sIx its.length its.length hi - HT.sIx its.length 0 lo)).toArray := by
  obtain ⟨h1, h2, h3⟩ := slice_bounds lo hi its.toArray.size
  unfold slicePick
  rw [h1, h2, h3]
  simp only [sliceRange_one, pick_run, List.size_toArray] <;> rfl
def rSlL (K : PySem.W.Frag) : V → Option Int → Option Int → Hp → VK → Prop := fun x lo hi H Q => ∃ a xs, x = .ref a ∧ SqL K H a xs ∧ ∀ p, H p = none → Q (.ref p) (upd H p (.lst (cutV xs lo hi)))
theorem sl_list : SlR X (rSlL X.K) := by
  intro pins s σ H x v vl vu lo hi sl Q I rx hs pl pu h
  obtain ⟨a, xs, rfl, hx, q⟩ := h
  cases rx
  obtain ⟨its, r, ht, hz⟩ := I.list hx
  have hlen := r.length
  refine ⟨"list", _, slot_list_getitem.lookup, ht.isList.typeIs, ?_⟩
  refine wpAny_getItem_list_slice ht.isList hs pl pu .none (by simp) ?_ (by rw [List.size_toArray] <;> omega)
  rw [slicePick_cut, ← hlen]
  refine ⟨.ref s.heap.objs.size, _, I.laid (t' := s.toks) (o := .lst (cutV xs lo hi)) (fun b ob q => Heap.get?_push_of_some _ q) (Nat.le_refl _) ?_, rfl, q _ (I.hok.fresh (Nat.le_refl _))⟩
  exact ⟨Nat.le_trans (cutV_length xs lo hi) hz, _, 0, (r.drop (HT.sIx xs.length 0 lo)).take (HT.sIx xs.length xs.length hi - HT.sIx xs.length 0 lo), Heap.get?_push_size _ rfl⟩
def flatV : V → Bool
  | .non => true
  | .bl _ => true
  | .int _ => true
  | .str _ => true
  | _ => false
def eqV : V → V → Bool
  | .non, .non => true
  | .bl a, .bl b => a == b
  | .bl a, .int b => (if a then 1 else 0) == b
  | .int a, .bl b => a == (if b then 1 else 0)
  | .int a, .int b => a == b
  | .str a, .str b => a == b
  | _, _ => false
theorem eqAt_V {A : Around} {s : Shared} {y x : V} {u v : Value} (ry : RelV y u) (rx : RelV x v) (fy : flatV y = true) (fx : flatV x = true) : SeqAt.EqAt A s u v (eqV y x) := by
  cases y with
  | non =>
    cases ry
    cases x with
    | non => cases rx; exact SeqAt.EqAt.same _
    | bl b => cases rx; exact SeqAt.EqAt.none_bool b
    | int b => obtain ⟨t, rfl⟩ := rx; exact SeqAt.EqAt.none_int b t
    | str b => obtain ⟨t, rfl⟩ := rx; exact SeqAt.EqAt.none_str b t
    | _ => exact absurd (show false = true from fx) Bool.false_ne_true
  | bl a =>
    cases ry
    cases x with
    | non => cases rx; exact SeqAt.EqAt.bool_none a
    | bl b => cases rx; exact SeqAt.EqAt.bool_bool a b
    | int b => obtain ⟨t, rfl⟩ := rx; exact SeqAt.EqAt.bool_int a b t
    | str b => obtain ⟨t, rfl⟩ := rx; exact SeqAt.EqAt.bool_str a b t
    | _ => exact absurd (show false = true from fx) Bool.false_ne_true
  | int a =>
    obtain ⟨t', rfl⟩ := ry
    cases x with
    | non => cases rx; exact SeqAt.EqAt.int_none a t'
    | bl b => cases rx; exact SeqAt.EqAt.int_bool a t' b
    | int b => obtain ⟨t, rfl⟩ := rx; exact SeqAt.EqAt.int_int a t' b t
    | str b => obtain ⟨t, rfl⟩ := rx; exact SeqAt.EqAt.int_str a t' b t
    | _ => exact absurd (show false = true from fx) Bool.false_ne_true
  | str a =>
    obtain ⟨t', rfl⟩ := ry
    cases x with
    | non => cases rx; exact SeqAt.EqAt.str_none a t'
    | bl b => cases rx; exact SeqAt.EqAt.str_bool a t' b
    | int b => obtain ⟨t, rfl⟩ := rx; exact SeqAt.EqAt.str_int a t' b t
    | str b => obtain ⟨t, rfl⟩ := rx; exact SeqAt.EqAt.str_str a t' b t
    | _ => exact absurd (show false = true from fx) Bool.false_ne_true
  | _ => exact absurd (show false = true from fy) Bool.false_ne_true
def eqU (x : V) (u : Value) : Bool := match u with
  | .none => eqV .non x
  | .bool b => eqV (.bl b) x
  | .int i _ => eqV (.int i) x
  | .str z _ => eqV (.str z) x
  | _ => false
theorem eqU_of {x y : V} {u : Value} (r : RelV y u) (f : flatV y = true) : eqU x u = eqV y x := by
  cases y with
  | non => cases r; rfl
  | bl b => cases r; rfl
  | int i => obtain ⟨t, rfl⟩ := r; rfl
  | str z => obtain ⟨t, rfl⟩ := r; rfl
  | _ => exact absurd (show false = true from f) Bool.false_ne_true
theorem any_eqU {x : V} : ∀ {xs : List V} {us : List Value}, Vals xs us → xs.all flatV = true → us.any (eqU x) = xs.any fun y => eqV y x
  | _, _, .nil, _ => rfl
  | y :: xs, u :: us, .cons r t, f => by
    rw [List.all_cons, Bool.and_eq_true] at f
    rw [List.any_cons, List.any_cons, eqU_of r f.1, any_eqU t f.2]
theorem mem_eqAt {A : Around} {s : Shared} {x : V} {v : Value} (rx : RelV x v) (fx : flatV x = true) : ∀ {xs : List V} {us : List Value}, Vals xs us → xs.all flatV = true → ∀ u ∈ us, SeqAt.EqAt A s u v (eqU x u)
  | _, _, .nil, _ => fun u hu => by cases hu
  | y :: xs, u :: us, .cons r t, f => fun u' hu => by
    rw [List.all_cons, Bool.and_eq_true] at f
    rcases List.mem_cons.mp hu with rfl | hu
    · rw [eqU_of r f.1]; exact eqAt_V r rx f.1 fx
    · exact mem_eqAt rx fx t f.2 u' hu
def inV (x : V) (xs : List V) : Bool := xs.any fun y => eqV y x
def rIn (K : PySem.W.Frag) (neg : Bool) : R2 := fun x y H Q => ∃ p xs, y = .ref p ∧ (SqL K H p xs ∨ SqT K H p xs) ∧ flatV x = true ∧ xs.all flatV = true ∧ Q (.bl (if neg then !inV x xs else inV x xs)) H
theorem op_in_seq : OpR X (compareOp .In) (rIn X.K false) := by
  intro pins s σ H x y v u Q I rx ry h
  obtain ⟨p, xs, rfl, hq, fx, fs, q⟩ := h
  cases ry
  rcases hq with hq | hq
  · obtain ⟨its, r, pl, hz⟩ := I.list hq
    refine SeqAt.in_listAt (eqU x) pl.isList (fun w hw => mem_eqAt rx fx r fs w (by simpa using hw)) ⟨.bl _, H, I, rfl, ?_⟩
    rw [show its.toArray.any (eqU x) = its.any (eqU x) by simp, any_eqU r fs]
    exact q
  · obtain ⟨its, r, pl, hz⟩ := I.tuple hq
    refine SeqAt.in_tupleAt (eqU x) pl (fun w hw => mem_eqAt rx fx r fs w (by simpa using hw)) ⟨.bl _, H, I, rfl, ?_⟩
    rw [show its.toArray.any (eqU x) = its.any (eqU x) by simp, any_eqU r fs]
    exact q
theorem op_notIn_seq : OpR X (compareOp .NotIn) (rIn X.K true) := by
  intro pins s σ H x y v u Q I rx ry h
  obtain ⟨p, xs, rfl, hq, fx, fs, q⟩ := h
  cases ry
  rcases hq with hq | hq
  · obtain ⟨its, r, pl, hz⟩ := I.list hq
    refine SeqAt.notIn_listAt (eqU x) pl.isList (fun w hw => mem_eqAt rx fx r fs w (by simpa using hw)) ⟨.bl _, H, I, rfl, ?_⟩
    rw [show its.toArray.any (eqU x) = its.any (eqU x) by simp, any_eqU r fs]
    exact q
  · obtain ⟨its, r, pl, hz⟩ := I.tuple hq
    refine SeqAt.notIn_tupleAt (eqU x) pl (fun w hw => mem_eqAt rx fx r fs w (by simpa using hw)) ⟨.bl _, H, I, rfl, ?_⟩
    rw [show its.toArray.any (eqU x) = its.any (eqU x) by simp, any_eqU r fs]
    exact q
theorem call_len_seq : CallR X (.builtin "len") (fun xs H Q => ∃ p ys, xs = [.ref p] ∧ (SqL X.K H p ys ∨ SqT X.K H p ys) ∧ Q (.int ys.length) H) := by
  intro pins s σ H xs us Q I r h
  obtain ⟨p, ys, rfl, hq, q⟩ := h
  obtain ⟨u, rfl, rx⟩ := vals1 r
  cases rx
  have hn := line63
  rcases hq with hq | hq
  · obtain ⟨its, r', pl, hz⟩ := I.list hq
    have hlen := r'.length
    exact Calls.call_len_list pl.isList (by simp only [List.size_toArray] <;> omega) ⟨.int ys.length, H, I.tok _, ⟨s.toks + 1, by rw [List.size_toArray, hlen]⟩, q⟩
  · obtain ⟨its, r', pl, hz⟩ := I.tuple hq
    have hlen := r'.length
    exact len_tuple pl (by simp only [List.size_toArray] <;> omega) ⟨.int ys.length, H, I.tok _, ⟨s.toks + 1, by rw [List.size_toArray, hlen]⟩, q⟩
theorem CallR.or {f : Value} {r r' : List V → Hp → VK → Prop} (h : CallR X f r) (h' : CallR X f r') : CallR X f (fun xs H Q => r xs H Q ∨ r' xs H Q) := by
  intro pins s σ H xs us Q I rs q
  rcases q with q | q
  · exact h pins s σ H xs us Q I rs q
  · exact h' pins s σ H xs us Q I rs q
theorem call_tuple_of : CallR X (.type "tuple") (fun xs H Q => ∃ p ys, xs = [.ref p] ∧ ((SqL X.K H p ys ∧ ∀ l, H l = none → Q (.ref l) (upd H l (.tup ys))) ∨ (SqT X.K H p ys ∧ Q (.ref p) H))) := by
  intro pins s σ H xs us Q I r h
  obtain ⟨p, ys, rfl, h⟩ := h
  obtain ⟨u, rfl, rx⟩ := vals1 r
  cases rx
  rcases h with ⟨hq, q⟩ | ⟨hq, q⟩
  · obtain ⟨its, r', pl, hz⟩ := I.list hq
    have hlen := r'.length
    refine call_tuple_list pl.isList (fun h' kp => ?_) (by simp only [List.size_toArray] <;> omega)
    have I1 : Inv X pins σ H { s with heap := h' } := I.kept (t' := s.toks) kp
    have I2 : Inv X pins σ (upd H h'.objs.size (.tup ys)) { s with heap := h'.push { cls := .type "tuple", data := .seq its.toArray } } :=
      I1.laid (t' := s.toks) (fun b o e => Heap.get?_push_of_some _ e) (Nat.le_refl _) (show ObjOk X.prog X.w _ _ _ (.tup ys) from ⟨hz, its, r', IsTup.new _ _⟩)
    exact ⟨.ref h'.objs.size, _, I2, rfl, q _ (I1.hok.fresh (Nat.le_refl _))⟩
  · obtain ⟨its, r', pl, hz⟩ := I.tuple hq
    exact call_tuple_same pl ⟨.ref p, H, I, rfl, q⟩
def tyV (K : PySem.W.Frag) (T : String) (x : V) (H : Hp) : Prop := match x with
  | .str _ => T = "str"
  | .int _ => T = "int"
  | .ref p => (T = "list" ∧ ∃ xs, SqL K H p xs) ∨ (T = "tuple" ∧ ∃ o, K.lookup p = some o ∧ o.cls = .type "tuple" ∧ o.dict = none) ∨
      (T = "dict" ∧ ((∃ kvs, H p = some (.dK kvs)) ∨ ∃ kvs, H p = some (.dT kvs))) ∨ (T = "set" ∧ ∃ S n, H p = some (.set S n))
  | _ => False
theorem tyV_is {pins : List (Addr × Obj)} {σ : St} {H : Hp} {s : Shared} {T : String} {x : V} {v : Value} (I : Inv X pins σ H s) (r : RelV x v) (ty : tyV X.K T x H) :
    s.TypeIs v T ∧ ∀ a, v = .ref a → ∃ ob, s.heap.get? a = some ob ∧ ob.dict = none := by
  cases x with
  | str z =>
    obtain ⟨t, rfl⟩ := r
    cases (show T = "str" from ty)
    exact ⟨typeIs_str s z t, fun _ e => nomatch e⟩
  | int i =>
    obtain ⟨t, rfl⟩ := r
    cases (show T = "int" from ty)
    exact ⟨typeIs_int s i t, fun _ e => nomatch e⟩
  | ref p =>
    cases r
    rcases ty with ⟨rfl, xs, hq⟩ | ⟨rfl, o, hk, hc, hd⟩ | ⟨rfl, hk⟩ | ⟨rfl, S, n, hk⟩
    · obtain ⟨its, _, pl, _⟩ := I.list hq
      refine ⟨pl.isList.typeIs, fun a e => ?_⟩
      cases e
      obtain ⟨o, n, e, c, hd, _⟩ := pl
      exact ⟨o, e, hd⟩
    · refine ⟨⟨o, I.kIn p o hk, hc⟩, fun a e => ?_⟩
      cases e
      exact ⟨o, I.kIn _ o hk, hd⟩
    · have z : ∃ o, s.heap.get? p = some o ∧ o.ExactDict := by
        rcases hk with ⟨kvs, hk⟩ | ⟨kvs, hk⟩
        · obtain ⟨_, _, _, _, o, _, _, e, ex, _⟩ := I.hok p _ hk
          exact ⟨o, e, ex⟩
        · obtain ⟨_, _, _, _, o, _, _, e, ex, _⟩ := I.hok p _ hk
          exact ⟨o, e, ex⟩
      obtain ⟨o, e, ex⟩ := z
      refine ⟨⟨o, e, ex.1⟩, fun a e2 => ?_⟩
      cases e2
      exact ⟨o, e, ex.2.1⟩
    · obtain ⟨o, _, _, _, e, ex, _⟩ := I.hok p _ hk
      refine ⟨⟨o, e, ex.1⟩, fun a e2 => ?_⟩
      cases e2
      exact ⟨o, e, ex.2.1⟩
  | _ => exact False.elim ty
def tBM (K : PySem.W.Frag) (T : String) (r : V → List V → Hp → VK → Prop) (to : TE) (t : TA) : TE := fun σ H Q => to σ H fun x H1 => tyV K T x H1 ∧ t σ H1 fun xs H2 => r x xs H2 Q
variable {o e : Expr} {es : List Expr} {to : TE} {t : TA} {name : Str} {apos cpos : Pos} {T id : String} {r : V → List V → Hp → VK → Prop}
theorem pe_bm (pa : PlainAttrs T) (slot : Slot T name id) (hty : typeOf (.builtin id) = pure (.type "method_descriptor")) (hm : MtR X id r) (ho : PE X o to) (ha : PA X (e :: es) t)
    (hbase : attributeBase o name X.env (eval o X.env) = eval o X.env := by rfl)
    (hfew : ((backTo cpos (starEach (e :: es) X.env)).all (fun x => !x.1) && (backToKw cpos (keywordEach [] X.env)).all (fun x => x.1.isSome)
      && decide ((e :: es).length + ([] : List Keyword).length + (if ([] : List Keyword).isEmpty then 0 else 1) < 30)) = true := by rfl)
    (hline : (apos.endLine == cpos.line) = true := by rfl) (hs : starEach (e :: es) X.env = (false, eval e X.env) :: starEach es X.env := by rfl) (hplain : (backTo cpos (starEach es X.env)).any (·.1) = false := by rfl) :
    PE X (.Call (.Attribute o name apos) (e :: es) [] cpos) (tBM X.K T r to t) := by
  intro pins s σ H Q I h
  refine wpAny_Call_method_late hbase hfew hline rfl (thn (ho pins s σ H _ I h) fun v s1 ⟨x, H1, I1, r1, ty, q1⟩ => ?_)
  obtain ⟨h1, h2⟩ := tyV_is I1 r1 ty
  refine ⟨T, id, pa, slot, hty, h1, h2, ?_⟩
  have hA := ha cpos pins s1 σ H1 _ I1 q1
  rw [hs] at hA ⊢
  refine Calls.callWith_builtin (by show (false || (backTo cpos (starEach es X.env)).any (·.1)) = false; rw [hplain] <;> rfl) (Calls.evalArgs_plain ?_)
  exact thn hA fun us s2 ⟨vs, H2, I2, r2, q2⟩ => hm pins s2 σ H2 x vs v us Q I2 r1 r2 q2
end
end L2
namespace L2
open PySem PySem.Spec PyProof.Rows
def MtM (X : Cx) (id : String) (r : V → List V → Hp → VK → Prop) : Prop :=
  ∀ (pins : List (Addr × Obj)) (s : Shared) (σ : St) (H : Hp) (x : V) (xs : List V) (v : Value) (us : List Value) (Q : VK), Inv X pins σ H s → RelV x v → Vals xs us → r x xs H Q →
    wpAny (model X.prog X.w) X.A (call (.builtin id) (v :: us)) (EP X pins σ Q) X.xe s
theorem Vals.one : ∀ {x : V} {us : List Value}, Vals [x] us → ∃ u, us = [u] ∧ RelV x u
  | _, _, .cons r .nil => ⟨_, rfl, r⟩
theorem Vals.two : ∀ {x y : V} {us : List Value}, Vals [x, y] us → ∃ u v, us = [u, v] ∧ RelV x u ∧ RelV y v
  | _, _, _, .cons r (.cons q .nil) => ⟨_, _, rfl, r, q⟩
theorem Vals.zero : ∀ {us : List Value}, Vals [] us → us = []
  | _, .nil => rfl
theorem Vals.reverse {xs : List V} {us : List Value} (h : Vals xs us) : Vals xs.reverse us.reverse := by
  induction h with
  | nil => exact .nil
  | cons r t ih => rw [List.reverse_cons, List.reverse_cons]; exact Vals.append ih (.cons r .nil)
section
variable {X : Cx} {pins : List (Addr × Obj)} {σ : St} {H : Hp} {s : Shared} {l b : Addr} {xs ys zs : List V}
theorem Inv.lset {its its' : List Value} {n : Nat} {f : Array Value → Array Value} {t' : Nat} (I : Inv X pins σ H s) (hH : H l = some (.lst xs))
    (e : s.heap.get? l = some { cls := .type "list", data := .seq its.toArray n }) (hf : f its.toArray = its'.toArray) (hv : Vals ys its') (hz : ys.length ≤ sizeLine) :
    Inv X pins σ (upd H l (.lst ys)) { s with heap := s.heap.update l (Obj.mapSeq f), toks := t' } := by
  have q := PySem.IsL.update e f
  rw [hf] at q
  refine I.write (x := l) (e := l) (by rw [hH]; exact trivial) (.inl rfl) (fun b' u hb hu => (Heap.get?_update_other s.heap (Obj.mapSeq f) (Ne.symm hb)).trans hu) ⟨_, q⟩ ?_
  exact ⟨hz, its', _, hv, q⟩
theorem Inv.lnew {its : List Value} {t' : Nat} (I : Inv X pins σ H s) (hv : Vals ys its) (hz : ys.length ≤ sizeLine) :
    Inv X pins σ (upd H s.heap.objs.size (.lst ys)) { s with heap := s.heap.push { cls := .type "list", data := .seq its.toArray }, toks := t' } :=
  I.laid (fun _ _ q => Heap.get?_push_of_some _ q) (Nat.le_refl _) ⟨hz, its, 0, hv, Heap.get?_push_size _ rfl⟩
theorem Inv.fresh (I : Inv X pins σ H s) : H s.heap.objs.size = none := I.hok.fresh (Nat.le_refl _)
theorem Inv.lstM (I : Inv X pins σ H s) (hH : H l = some (.lst xs)) : xs.length ≤ sizeLine ∧ ∃ (its : List Value) (n : Nat), Vals xs its ∧ xs.length = its.length ∧ s.heap.get? l = some { cls := .type "list", data := .seq its.toArray n } := by
  obtain ⟨z, its, n, r, e⟩ := I.hok l _ hH
  exact ⟨z, its, n, r, r.length, e⟩
theorem notLongL {n : Nat} (h : n ≤ sizeLine) : Builtin.List.listTooLong n = false := by
  unfold Builtin.List.listTooLong
  exact decide_eq_false (by omega)
end
section
variable {X : Cx}
def rAppend : V → List V → Hp → VK → Prop := fun x vs H Q => ∃ l xs y, x = .ref l ∧ vs = [y] ∧ H l = some (.lst xs) ∧ xs.length < sizeLine ∧ Q .non (upd H l (.lst (xs ++ [y])))
theorem mt_append : MtM X "list.append" rAppend := by
  intro pins s σ H x vs v us Q I rx rv h
  obtain ⟨l, xs, y, rfl, rfl, hH, hz, q⟩ := h
  cases rx
  obtain ⟨u, rfl, ru⟩ := rv.one
  obtain ⟨z, its, n, r, hl, e⟩ := I.lstM hH
  refine call_meets F.slot_list_append ⟨_, e, rfl⟩ F.entry_list_append (F.args_list_append_2 _ _) (PySem.list_append l its.toArray n u (by rw [List.size_toArray]; omega)) ⟨e, ?_⟩
  refine ⟨.non, _, I.lset (its' := its ++ [u]) hH e (by simp) (r.append (.cons ru .nil)) ?_, rfl, q⟩
  rw [List.length_append, List.length_singleton]
  omega
def rExtend : V → List V → Hp → VK → Prop := fun x vs H Q => ∃ l b xs zs, x = .ref l ∧ vs = [.ref b] ∧ H l = some (.lst xs) ∧ H b = some (.lst zs) ∧ xs.length + zs.length ≤ sizeLine ∧ Q .non (upd H l (.lst (xs ++ zs)))
theorem mt_extend : MtM X "list.extend" rExtend := by
  intro pins s σ H x vs v us Q I rx rv h
  obtain ⟨l, b, xs, zs, rfl, rfl, hH, hB, hz, q⟩ := h
  cases rx
  obtain ⟨u, rfl, ru⟩ := rv.one
  cases ru
  obtain ⟨z, its, n, r, hl, e⟩ := I.lstM hH
  obtain ⟨z2, its2, n2, r2, hl2, e2⟩ := I.lstM hB
  have hsz : its.toArray.size + its2.toArray.size ≤ sizeLine := by rw [List.size_toArray, List.size_toArray]; omega
  have hlong : ¬ (!its.toArray.isEmpty && Builtin.List.listTooLong (its.toArray.size + its2.toArray.size)) = true := by
    rw [notLongL hsz, Bool.and_false]
    exact Bool.false_ne_true
  refine call_meets F.slot_list_extend ⟨_, e, rfl⟩ F.entry_list_extend (F.args_list_extend_2 _ _)
    (AutoSeq1.list_extend_list_list_0 l its.toArray n b its2.toArray n2 hlong (by rw [List.size_toArray]; omega) (by omega)) ⟨e, e2, ?_⟩
  refine ⟨.non, _, I.lset (its' := its ++ its2) hH e (by simp) (r.append r2) ?_, rfl, q⟩
  rw [List.length_append]
  omega
def rCat : R2 := fun x y H Q => ∃ l b xs zs, x = .ref l ∧ y = .ref b ∧ H l = some (.lst xs) ∧ H b = some (.lst zs) ∧ xs.length + zs.length ≤ sizeLine ∧ ∀ p, H p = none → Q (.ref p) (upd H p (.lst (xs ++ zs)))
theorem op_cat : OpR X (binaryOp .Add) rCat := by
  intro pins s σ H x y v u Q I rx ry h
  obtain ⟨l, b, xs, zs, rfl, rfl, hH, hB, hz, q⟩ := h
  cases rx
  cases ry
  obtain ⟨z, its, n, r, hl, e⟩ := I.lstM hH
  obtain ⟨z2, its2, n2, r2, hl2, e2⟩ := I.lstM hB
  refine PySem.P.add_list e e2 ?_ (by rw [List.size_toArray, List.size_toArray]; omega)
  have ea : its.toArray ++ its2.toArray = (its ++ its2).toArray := by simp
  rw [ea]
  exact ⟨.ref _, _, I.lnew (t' := s.toks) (r.append r2) (by rw [List.length_append]; omega), rfl, q _ I.fresh⟩
end
section
variable {prog : Program} {w : World} {A : Around} {E : Value → Shared → Prop} {s : Shared}
end
section
variable {X : Cx}
end
end L2
namespace Att
open PySem PySem.W PySem.Calls PyProof.Rows
theorem ints_of_wellAll {P : Params} {h : Heap} : ∀ (ns : List Int) (vs : List Value), WellAll P h vs (ns.map WData.int) → IntsAre vs ns := by
  intro ns
  induction ns with
  | nil =>
    intro vs w
    rw [List.map_nil] at w
    cases w
    exact .nil
  | cons n ns ih =>
    intro vs w
    rw [List.map_cons] at w
    cases w with
    | cons a b =>
      cases a
      exact .cons _ _ (ih _ b)
theorem script_of {l : OpenLaw} {n : Nat} (hn : l.most = some n) {P : Params} {h : Heap} {args : List WData} {vals : List Value}
    (hpre : l.row.toRowW.claim.pre args = true) (hwl : WellAll P h vals args) :
    ∃ a vs ns, vals = [Value.ref a] ∧ args = [WData.list (ns.map WData.int)] ∧ h.get? a = some { cls := .type "list", data := .seq vs.toArray } ∧ IntsAre vs ns ∧ ns.length ≤ n := by
  have hsh : WShape.hasAll [] args [.list .int] = true := (pre_splitW hpre).1
  have hc : l.pre.holds [] { args := args } = true := (pre_splitW hpre).2
  obtain ⟨d, r, rfl, h1, h2⟩ := hasAllW_cons hsh
  obtain rfl := hasAllW_nil h2
  obtain ⟨xs, rfl, h3⟩ := hasW_list h1
  obtain ⟨ns, rfl⟩ := items_int h3
  have hlen : ns.length ≤ n := by
    unfold OpenLaw.pre at hc
    have h4 : (WTm.not (.lt (.lit (.int (n : Int))) (.len (.arg 0)))).holds [] { args := [.list (ns.map .int)] } = true := by
      have h4 := (holds_andW hc).1
      rw [hn] at h4
      exact h4
    have h5 := condW_of h4 (w_not (w_lt w_lit (w_len_list (w_arg rfl))))
    rw [List.length_map] at h5
    refine Nat.le_of_not_lt fun q => ?_
    have q' : (n : Int) < ((ns.length : Nat) : Int) := by omega
    first
      | (rw [decide_eq_true q'] at h5; exact absurd h5 (by decide))
      | (simp at h5; omega)
  cases hwl with
  | cons w1 w2 =>
    cases w2
    cases w1 with
    | list ho hall => exact ⟨_, _, ns, rfl, rfl, ho, ints_of_wellAll ns _ hall, hlen⟩
theorem post_true (l : OpenLaw) (args : List WData) : l.row.toRowW.claim.post args (.bool true) args = true :=
  postW_of (r := l.row.toRowW) (X := (true == true))
    (show WShape.has [] (.bool true) .bool = true by first | rfl | decide | simp [WShape.has, WShape.arms, WShape.armsAll])
    (show (WTm.eq .res (.lit (.bool true))).value [] { args := args, res := some (.bool true), after := args } = some (.bool (true == true)) from w_eq_bool (w_res rfl) w_lit) rfl
theorem attach_call {l : OpenLaw} {n : Nat} {q : Program} {loose : List Str} {XP : (Str → Option Value) → Heap → Prop} {YP : World → Heap → Prop} {d : DefRec}
    (hn : l.most = some n) (hdf : d.params.defaults = [])
    (call : ∀ (w : World) (s₀ s₁ : Shared) (mg mb : Str → Option Value) (fa : Addr) (o : Obj) (pm cd doc : Value) (a : Addr) (vs : List Value) (ns : List Int),
      Ground q loose [] XP w s₀ mg mb s₁.heap → YP w s₁.heap →
      s₁.heap.get? fa = some o → o.data = .func (docDef d.name d.params d.body d.scope pm cd doc) → s₁.heap.CodeRec cd d.name → mg d.name = some (.ref fa) →
      s₁.heap.get? a = some { cls := .type "list", data := .seq vs.toArray } → IntsAre vs ns → ns.length ≤ n → s₁.gens = #[] →
      codeAny (model l.prog w) callerA (.call (.ref fa) ⟨[.ref a], []⟩) (fun r s' => r = .ok (.ret (.bool true)) ∧ OldK s₁.heap s'.heap ∧ s'.os = s₁.os ∧ AllBare s'.gens) s₁) :
    WalkO q loose XP YP l.row.toRowW d [] (fun f vs => PySem.call f vs) := by
  intro w s₀ s₁ mg mb G Y fa o pm cd doc dV kV ho hd hcd hD hmg hg args vals as hpre hlay hrd hwl hlo
  obtain rfl : dV = .none := Dflts.none hD hdf
  obtain rfl : kV = .none := Dflts.noKw hD
  obtain ⟨a, vs, ns, rfl, rfl, hobj, hints, hlen⟩ := script_of hn hpre hwl
  refine enter_call (codeAny_mono (call w s₀ s₁ mg mb fa o pm cd doc a vs ns G Y ho (fd_plain hd) hcd hmg hobj hints hlen hg) fun r s' hq => ?_)
  obtain ⟨rfl, h2, h3, h4⟩ := hq
  exact ⟨.inl ⟨.bool true, .bool true, [], rfl, fun _ => rfl, .bool true, post_true l _, fun _ => ⟨List.Pairwise.nil, fun _ hm => (nomatch hm)⟩⟩, h2, h3, h4⟩
section
variable {prog : Program} {w : World} {A : Around} {E : Value → Shared → Prop} {s : Shared} {K : Frag}
end
end Att
namespace L2
open PySem PySem.Spec PyProof.Rows
theorem vals_ints : ∀ {vs : List Value} {ns : List Int}, IntsAre vs ns → Vals (ns.map V.int) vs
  | _, _, .nil => .nil
  | _, _, .cons n t h => .cons ⟨t, rfl⟩ (vals_ints h)
def Only (H : Hp) : Prop := ∀ b, H b = none ∨ ∃ o xs, H b = some (.frz o (.lst xs))
theorem law_call {P : Program} {w : World} {K : PySem.W.Frag} {mg mb : Str → Option Value} {CX : CXT} {k : Nat} {fa a : Addr} {fd : FuncData} {x : Str} {sp : Sp} {s₁ : Shared} {vs : List Value} {ns : List Int}
    (KX : K.In s₁.heap) (hns : s₁.heap.Ns mainGlobals mg) (hb : s₁.heap.Ns builtinsNs mb) (hbb : ∀ x : Str, x ≠ "__name__" → mb x = bootBuiltins x) (hlim : s₁.heap.NoLimit) (hg : s₁.gens = #[])
    (ha : s₁.heap.get? a = some { cls := .type "list", data := .seq vs.toArray }) (hi : IntsAre vs ns) (hl : ns.length ≤ sizeLine) (hr : Room k callerA)
    (F : ∀ base : Heap, K.In base → base.Ns mainGlobals mg → FnOk P w K mg base CX k fa fd [x] sp) (hbind : ∀ (s : Shared) (u : Value), BindsTo s fd ⟨[u], []⟩ [(x, u)])
    (hsp : ∀ H : Hp, Only H → SqL K H a (ns.map V.int) → sp [.ref a] H (fun v _ => v = .bl true) fun _ _ _ => False)
    (hCX : ∀ H e s', CX [] H s₁ (fun _ _ _ => False) e s' → False) :
    codeAny (model P w) callerA (.call (.ref fa) ⟨[.ref a], []⟩) (fun r s' => r = .ok (.ret (.bool true)) ∧ OldK s₁.heap s'.heap ∧ s'.os = s₁.os ∧ AllBare s'.gens) s₁ := by
  have rv := vals_ints hi
  have lenV := hi.length
  -- from an abstract heap in which nothing but the script may be tracked
  have core : ∀ H : Hp, Only H → SqL K H a (ns.map V.int) → HOk P w H s₁.heap → (∀ b, H b ≠ none → b = a) → (H a ≠ none → K.lookup a = none) →
      codeAny (model P w) callerA (.call (.ref fa) ⟨[.ref a], []⟩) (fun r s' => r = .ok (.ret (.bool true)) ∧ OldK s₁.heap s'.heap ∧ s'.os = s₁.os ∧ AllBare s'.gens) s₁ := by
    intro H hO hS hok hA hK
    have base_of : ∀ {b : Addr} {o : Obj}, s₁.heap.get? b = some o → H b = none → (hidT s₁.heap H).get? b = some o := fun e n => hidT_get e n
    have noA : ∀ {b : Addr} {o : Obj} {es : Array DictEntry} {ep : Nat}, s₁.heap.get? b = some o → o.data = .dict es ep → H b = none := fun {b o es ep} e d => by
      cases q : H b with
      | none => rfl
      | some u =>
        have e' : b = a := hA b (by rw [q]; simp)
        subst e'
        rw [ha] at e; cases e
        have d' : Data.seq vs.toArray _ = Data.dict es ep := d
        cases d'
    have nsK : ∀ {b : Addr} {m : Str → Option Value}, s₁.heap.Ns b m → (hidT s₁.heap H).Ns b m := fun {b m} ⟨o, es, ep, e, d, r⟩ => ⟨o, es, ep, base_of e (noA e d), d, r⟩
    have hKb : K.In (hidT s₁.heap H) := fun b o e => base_of (KX b o e) (by
      cases q : H b with
      | none => rfl
      | some u =>
        have e' : b = a := hA b (by rw [q]; simp)
        subst e'
        rw [hK (by rw [q]; simp)] at e; cases e)
    have hM : Mod K mg (hidT s₁.heap H) := ⟨hKb, nsK hns, ⟨mb, nsK hb, hbb⟩, let ⟨mc, h1, h2⟩ := hlim; ⟨mc, nsK h1, h2⟩⟩
    have e0 : Env0 P w K mg (hidT s₁.heap H) callerA [] s₁ H := ⟨rfl, hM, fun b o e => of_hidT e, Nat.le_of_eq (hidT_size _ _), trivial, fun b hb => absurd (show b ∈ ([] : List Addr) from hb) (by simp), hok, .of_eq hg⟩
    refine codeAny_mono ((F _ hKb (nsK hns)).run callerA [] s₁ H ⟨[.ref a], []⟩ [.ref a] [.ref a] _ _ hr e0 (hbind s₁ (.ref a)) (.cons rfl .nil) (hsp H hO hS)) fun r s' h => ?_
    cases r with
    | error e => exact (hCX H e s' h).elim
    | ok fl =>
      cases fl with
      | next => exact False.elim h
      | brk => exact False.elim h
      | cont => exact False.elim h
      | ret u =>
        obtain ⟨v, H', os, bare, un, hok', r', q⟩ := h
        have q' : v = .bl true := q
        subst q'
        obtain rfl : u = Value.bool true := r'
        refine ⟨rfl, OldK.of_keep fun b o e => ?_, os, bare⟩
        cases q : H b with
        | none => exact un.keep b o e q (by intro z; exact absurd (show b ∈ ([] : List Addr) from z) (by simp)) (by simp)
        | some u =>
          rcases hO b with z | ⟨ob, xs, z⟩
          · rw [q] at z; cases z
          · have z2 := un.frzs b ob _ z
            obtain ⟨e1, _⟩ := hok b _ z
            obtain ⟨e2, _⟩ := hok' b _ z2
            rw [e] at e1; cases e1
            exact e2
  cases hk : K.lookup a with
  | some o =>
    -- the script is one of the module's own objects
    have e := KX a o hk
    rw [ha] at e
    cases e
    refine core (fun _ => none) (fun _ => .inl rfl) (.inr ⟨_, vs.toArray, _, hk, rfl, rfl, rfl, by rw [List.size_toArray, lenV]; exact hl, by simpa using rv⟩) (fun b u z => by have z' : (none : Option HO) = some u := z; cases z') (fun b z => absurd rfl z) fun z => absurd rfl z
  | none =>
    refine core (fun b => if b = a then some (.frz { cls := .type "list", data := .seq vs.toArray } (.lst (ns.map V.int))) else none) (fun b => ?_) (.inl (.inr ⟨{ cls := .type "list", data := .seq vs.toArray }, if_pos rfl⟩)) (fun b u z => ?_) (fun b z => ?_) fun _ => hk
    · by_cases hb : b = a
      · exact .inr ⟨_, _, if_pos hb⟩
      · exact .inl (if_neg hb)
    · by_cases hb : b = a
      · have z' := (if_pos hb).symm.trans z
        cases z'
        subst hb
        exact ⟨ha, by rw [List.length_map]; exact hl, vs, _, rv, ha⟩
      · have z' := (if_neg hb).symm.trans z
        cases z'
    · by_cases hb : b = a
      · exact hb
      · exact absurd (if_neg hb) z
end L2
namespace L2
open PySem PySem.Spec PyProof.Rows
theorem walk_of {l : PySem.W.OpenLaw} {n k : Nat} {q : Program} {loose : List Str} {XP : (Str → Option Value) → Heap → Prop} {YP : World → Heap → Prop} {d : DefRec} {K : Params → PySem.W.Frag} {CX : World → CXT} {sp : World → Sp} {x : Str}
    (hn : l.most = some n) (hn2 : n ≤ sizeLine) (hdf : d.params.defaults = []) (hr : Room k callerA)
    (hY : ∀ (w : World) (h : Heap), YP w h → (K w.params).In h)
    (F : ∀ (w : World) (mg : Str → Option Value) (fa : Addr) (h : Heap), (K w.params).In h → h.Ns mainGlobals mg → mg d.name = some (.ref fa) →
      ∃ fd : FuncData, (∀ (s : Shared) (u : Value), BindsTo s fd ⟨[u], []⟩ [(x, u)]) ∧
        ∀ base : Heap, (K w.params).In base → base.Ns mainGlobals mg → FnOk l.prog w (K w.params) mg base (CX w) k fa fd [x] (sp w))
    (hsp : ∀ (w : World) (H : Hp) (a : Addr) (ns : List Int), ns.length ≤ n → Only H → SqL (K w.params) H a (ns.map V.int) → sp w [.ref a] H (fun v _ => v = .bl true) fun _ _ _ => False)
    (hCX : ∀ (w : World) (H : Hp) (s : Shared) (e : Value) (s' : Shared), CX w [] H s (fun _ _ _ => False) e s' → False) :
    PySem.W.WalkO q loose XP YP l.row.toRowW d [] (fun f vs => PySem.call f vs) := by
  refine Att.attach_call hn hdf fun w s₀ s₁ mg mb fa o pm cd doc a vs ns G Y ho hd hcd hmg hobj hints hlen hg => ?_
  have KX := hY w _ Y
  obtain ⟨fd, hb, hF⟩ := F w mg fa _ KX G.T.g hmg
  exact law_call KX G.T.g G.T.b G.T.builtins G.T.nolimit hg hobj hints (Nat.le_trans hlen hn2) hr hF hb (fun H hO hS => hsp w H a ns hlen hO hS) fun H e s' => hCX w H s₁ e s'
end L2
namespace L2
open PySem PySem.Spec PyProof.Rows
def defArgs (s : Stmt) : Arguments := match s with
  | .FunctionDef _ a _ _ _ _ _ _ _ _ => a
  | _ => { posonlyargs := [], args := [], vararg := none, kwonlyargs := [], kw_defaults := [], kwarg := none, defaults := [] }
def defBody (s : Stmt) : List Stmt := match s with
  | .FunctionDef _ _ b _ _ _ _ _ _ _ => b
  | _ => []
def defScope (s : Stmt) : Scope := match s with
  | .FunctionDef _ _ _ _ _ _ sc _ _ _ => sc
  | _ => { kind := .function, names := [], isGenerator := false, isCoroutine := false }
abbrev CX0 : CXT := fun _ _ _ _ _ _ => False
abbrev E0 : XK := fun _ _ _ => False
theorem pass0 {X : Cx} : Passes CX0 X E0 := fun _ _ _ _ _ _ _ h => h.elim
structure Fun (K : PySem.W.Frag) (x qual : Str) (st : Stmt) (f : Addr) (fd : FuncData) : Prop where
  ex : ∃ (oc : Value) (od : Option Addr) (kV doc pm : Value) (an : Option Addr) (cdv ct : Value) (osl : Array (Option Value)),
    fd = PySem.W.fnOf x qual (defArgs st) (defBody st) (defScope st) .none kV doc pm an cdv ct ∧ K.lookup f = some ⟨oc, od, .func fd, osl⟩ ∧ PySem.W.codeIn K cdv qual = true
  kp : PySem.W.keepIn K (.ref f) = true
section
variable {P : Program} {w : World} {K : PySem.W.Frag} {mg : Str → Option Value} {base : Heap}
theorem Fun.ok {x qual : Str} {st : Stmt} {f : Addr} {fd : FuncData} {N ps : List Str} {k : Nat} {sp : Sp} (F : Fun K x qual st f fd) (S : FnScope N ps (defScope st)) (len : ∀ vs H Q E, sp vs H Q E → vs.length = ps.length)
    (hbody : ∀ (cdv : Value) (A : Around) (outer : List Env) (s : Shared) (H : Hp) (vs : List V) (Q : VK) (E : XK), Room k (A.deeper (envOfC qual (defScope st) s.heap.objs.size f cdv)) → sp vs H Q E →
      ∃ t, PSs (cxOf CX0 P w K mg base N qual (defScope st) f cdv A outer s H E).nox (defBody st) t ∧ t { nx := fun _ H' => Q .non H', rt := Q } (start N vs) H) : FnOk P w K mg base CX0 (k + 1) f fd ps sp := by
  obtain ⟨oc, od, kV, doc, pm, an, cdv, ct, osl, rfl, lk, hcd⟩ := F.ex
  refine fn_of lk hcd S len fun A outer s H vs Q E hr hsp => ?_
  obtain ⟨t, h, q⟩ := hbody cdv A outer s H vs Q E hr hsp
  exact ⟨t, h.nox, q⟩
theorem Fun.binds {x qual : Str} {st : Stmt} {f : Addr} {fd : FuncData} {ps : List Str} (F : Fun K x qual st f fd)
    (h : ∀ (kV doc pm : Value) (an : Option Addr) (cdv ct : Value) (us : List Value), us.length = ps.length → bindArgs (PySem.W.fnOf x qual (defArgs st) (defBody st) (defScope st) .none kV doc pm an cdv ct) ⟨us, []⟩ = pure (ps.zip us)) : Binds K fd ps [] := by
  obtain ⟨oc, od, kV, doc, pm, an, cdv, ct, osl, rfl, lk, hcd⟩ := F.ex
  exact .all (h kV doc pm an cdv ct)
theorem fun_mk {x qual : Str} {st : Stmt} {f : Addr} {oc : Value} {od an : Option Addr} {osl : Array (Option Value)} {kV doc pm cdv ct : Value} (l : K.lookup f = some ⟨oc, od, .func (PySem.W.fnOf x qual (defArgs st) (defBody st) (defScope st) .none kV doc pm an cdv ct), osl⟩)
    (c : PySem.W.codeIn K cdv qual = true) (k : PySem.W.keepIn K (.ref f) = true) : Fun K x qual st f (PySem.W.fnOf x qual (defArgs st) (defBody st) (defScope st) .none kV doc pm an cdv ct) := ⟨⟨oc, od, kV, doc, pm, an, cdv, ct, osl, rfl, l, c⟩, k⟩
end
theorem hu_of {A : Around} {k : Nat} (hr : Room k A) : A.units + 1 < cLine := Nat.lt_of_le_of_lt (Nat.add_le_add_left (by decide : 1 ≤ 64) _) hr.units
section
variable {X : Cx}
end
theorem iteF {A B : Prop} (h : B) : if false = true then A else B := by
  rw [if_neg Bool.false_ne_true]
  exact h
theorem iteT {A B : Prop} (h : A) : if true = true then A else B := by
  rw [if_pos rfl]
  exact h
theorem ite2 {c A B : Prop} [Decidable c] (h1 : c → A) (h2 : ¬ c → B) : if c then A else B := by
  by_cases h : c
  · rw [if_pos h]
    exact h1 h
  · rw [if_neg h]
    exact h2 h
def Same (H H' : Hp) : Prop := ∀ b o, H b = some o → H' b = some o
theorem Same.refl (H : Hp) : Same H H := fun _ _ h => h
theorem Same.trans {H H1 H2 : Hp} (a : Same H H1) (b : Same H1 H2) : Same H H2 := fun c o h => b c o (a c o h)
theorem Same.free {H H' : Hp} (e : Same H H') {l : Addr} (h : H' l = Option.none) : H l = Option.none := by
  cases q : H l with
  | none => rfl
  | some o =>
    rw [e l o q] at h
    cases h
theorem Same.seq {K : PySem.W.Frag} {H H' : Hp} {a : Addr} {xs : List V} (e : Same H H') (h : SqL K H a xs) : SqL K H' a xs := by
  rcases h with (h | ⟨o, h⟩) | h
  · exact .inl (.inl (e _ _ h))
  · exact .inl (.inr ⟨o, e _ _ h⟩)
  · exact .inr h
end L2
namespace L2
open PySem PySem.Spec PyProof.Rows
section
variable {X : Cx}
end
section
variable {κ : Type} [DecidableEq κ]
end
end L2
namespace L3
open PySem PySem.Spec PyProof.Rows L2
abbrev St := L2.St
theorem same_upd {B H : Hp} {l : Addr} {o : HO} (h : Same B H) (n : B l = none) : Same B (upd H l o) := fun b u e => by
  rw [upd_ne (ne_of_none e n)]; exact h b u e
theorem same_new {H : Hp} {l : Addr} {o : HO} (n : H l = none) : Same H (upd H l o) := same_upd (Same.refl H) n
def New (H : Hp) (o : HO) (Q : VK) : Prop := ∀ p H', H p = none → Same H H' → H' p = some o → (∀ b, b ≠ p → H' b = H b) → Q (.ref p) H'
theorem New.at {H : Hp} {o : HO} {Q : VK} (h : New H o Q) {p : Addr} (n : H p = none) : Q (.ref p) (upd H p o) := h p _ n (same_new n) upd_same fun b hb => upd_ne hb
def clOf (env : Env) : List (Str × NameKind) → List (Str × Addr) → List (Str × Addr)
  | [], cs => cs
  | (n, k) :: r, cs => clOf env r (if (k == NameKind.free) = true then (n, ((env.cells.lookup n).getD 0)) :: cs else cs)
theorem clOf_run {env : Env} : ∀ (l : List (Str × NameKind)) (cs : List (Str × Addr)), (∀ y ∈ l, y.2 = .free → ∃ c, env.cells.lookup y.1 = some c) →
    (forIn l cs fun (x : Str × NameKind) (r : List (Str × Addr)) => (match x with
      | (name, kind) => if (kind == NameKind.free) = true then do let a ← cellOf env name; pure (ForInStep.yield ((name, a) :: r)) else pure (ForInStep.yield r) : Sem (ForInStep (List (Str × Addr))))) = (pure (clOf env l cs) : Sem _)
  | [], cs, _ => by rw [List.forIn_nil]; rfl
  | (n, k) :: r, cs, h => by
    rw [List.forIn_cons]
    have hr := fun cs' => clOf_run r cs' fun y hy => h y (List.mem_cons_of_mem _ hy)
    by_cases hk : (k == NameKind.free) = true
    · obtain ⟨c, hc⟩ := h (n, k) List.mem_cons_self (by simpa using hk)
      have hc : env.cells.lookup n = some c := hc
      simp only [hk, if_true, cellOf, hc, pure_bind, clOf, Option.getD_some]
      exact hr _
    · have hk : (k == NameKind.free) = false := by simpa using hk
      simp only [hk, Bool.false_eq_true, if_false, pure_bind, clOf]
      exact hr _
theorem closure_ok {env : Env} {scope : Scope} (h : ∀ y ∈ scope.names, y.2 = .free → ∃ c, env.cells.lookup y.1 = some c) : closureFor scope env = pure (clOf env scope.names []) := by
  unfold closureFor
  have e := clOf_run scope.names [] h
  first
    | exact e
    | (simp only [bind_pure_comp, id_map'] ; exact e)
    | (rw [show (do let cs ← _; return cs) = _ from bind_pure _]; exact e)
    | (simp; simpa using e)
theorem clOf_sub {env : Env} : ∀ (l : List (Str × NameKind)) (cs : List (Str × Addr)), (∀ y ∈ l, y.2 = .free → ∃ c, env.cells.lookup y.1 = some c) → (∀ p ∈ cs, env.cells.lookup p.1 = some p.2) →
    ∀ p ∈ clOf env l cs, env.cells.lookup p.1 = some p.2
  | [], cs, _, hc => hc
  | (n, k) :: r, cs, h, hc => by
    refine clOf_sub r _ (fun y hy => h y (List.mem_cons_of_mem _ hy)) ?_
    by_cases hk : (k == NameKind.free) = true
    · obtain ⟨c, e⟩ := h (n, k) List.mem_cons_self (by simpa using hk)
      have e : env.cells.lookup n = some c := e
      rw [if_pos hk]
      intro p hp
      rcases List.mem_cons.mp hp with rfl | hp
      · show env.cells.lookup n = some ((env.cells.lookup n).getD 0)
        rw [e]; rfl
      · exact hc p hp
    · rw [if_neg hk]; exact hc
theorem clOf_keep {env : Env} : ∀ (l : List (Str × NameKind)) (cs : List (Str × Addr)) (p : Str × Addr), p ∈ cs → p ∈ clOf env l cs
  | [], cs, p, h => h
  | (n, k) :: r, cs, p, h => by
    refine clOf_keep r _ p ?_
    split
    · exact List.mem_cons_of_mem _ h
    · exact h
theorem clOf_has {env : Env} : ∀ (l : List (Str × NameKind)) (cs : List (Str × Addr)) (x : Str), (x, NameKind.free) ∈ l → ∃ c, (x, c) ∈ clOf env l cs
  | (n, k) :: r, cs, x, h => by
    rcases List.mem_cons.mp h with h | h
    · have e1 : x = n := congrArg Prod.fst h
      have e2 : NameKind.free = k := congrArg Prod.snd h
      subst e1 e2
      refine ⟨(env.cells.lookup x).getD 0, clOf_keep r _ (x, _) ?_⟩
      rw [if_pos (by simp)]
      exact List.mem_cons_self
    · exact clOf_has r _ x h
theorem lookup_of_mem {α : Type} : ∀ {l : List (Str × α)} {x : Str} {c : α}, (x, c) ∈ l → ∃ d, l.lookup x = some d
  | (n, v) :: r, x, c, h => by
    by_cases e : x == n
    · exact ⟨v, by simp [List.lookup_cons, e]⟩
    · rcases List.mem_cons.mp h with h | h
      · cases h; exact absurd (by simp) e
      · obtain ⟨d, hd⟩ := lookup_of_mem h
        exact ⟨d, by simp [List.lookup_cons, e, hd]⟩
def csOk (sc : Scope) (NX N' : List Str) (cs : List (Option Nat)) (scope : Scope) : Bool :=
  (scope.kind == .function) && (scope.names.all fun y => y.2 != .cell) && (scope.names.all fun y => y.2 != .local || scope.names.lookup y.1 == some .local) &&
  (scope.names.all fun y => y.2 != .free || (sc.names.lookup y.1 == some .cell || sc.names.lookup y.1 == some .free)) &&
  decide (cs.length = N'.length) &&
  ((List.range cs.length).all fun j => match cs[j]? with
    | some (some i) => (match N'[j]? with | some x => decide (NX[i]? = some x) && (scope.names.lookup x == some .free) | none => false)
    | _ => true)
structure CsOk (sc : Scope) (NX N' : List Str) (cs : List (Option Nat)) (scope : Scope) : Prop where
  kind : scope.kind = .function
  nocell : ∀ y ∈ scope.names, y.2 ≠ .cell
  names : ∀ y ∈ scope.names, y.2 = .local → scope.names.lookup y.1 = some .local
  free : ∀ y ∈ scope.names, y.2 = .free → sc.names.lookup y.1 = some .cell ∨ sc.names.lookup y.1 = some .free
  len : cs.length = N'.length
  capt : ∀ (j i : Nat) (x : Str), cs[j]? = some (some i) → N'[j]? = some x → NX[i]? = some x ∧ scope.names.lookup x = some .free
theorem CsOk.of {sc : Scope} {NX N' : List Str} {cs : List (Option Nat)} {scope : Scope} (h : csOk sc NX N' cs scope = true) : CsOk sc NX N' cs scope := by
  unfold csOk at h
  simp only [Bool.and_eq_true] at h
  obtain ⟨⟨⟨⟨⟨h1, h2⟩, h3⟩, h4⟩, h5⟩, h6⟩ := h
  refine ⟨by simpa using h1, fun y hy => ?_, fun y hy e => ?_, fun y hy e => ?_, of_decide_eq_true h5, fun j i x e1 e2 => ?_⟩
  · have := List.all_eq_true.mp h2 y hy; simpa using this
  · have := List.all_eq_true.mp h3 y hy; simpa [e] using this
  · have := List.all_eq_true.mp h4 y hy; simpa [e] using this
  · have hj : j < cs.length := (List.getElem?_eq_some_iff.mp e1).1
    have := List.all_eq_true.mp h6 j (List.mem_range.mpr hj)
    rw [e1, e2] at this
    simpa using this
def cxC (X : Cx) (N' : List Str) (scope : Scope) (fp : List Addr) (s3 : Shared) (H3 : Hp) : Cx where
  prog := X.prog
  w := X.w
  K := X.K
  mg := X.mg
  base := X.base
  A := X.A
  N := N'
  s₀ := s3
  H₀ := H3
  env := compEnvC scope (clOf X.env scope.names []) s3.heap.objs.size X.env
  outer := X.stack
  stack := X.stack
  ex := fp
  fn := fun _ => false
  calm := X.calm
  pn := []
  xe := fun _ _ => False
def cst (cs : List (Option Nat)) (σ : St) : St := cs.map fun o => match o with | some i => (σ[i]?).getD none | none => none
def PTs (X : Cx) (ifs : List Expr) (t : TT) : Prop :=
  ∀ (pins : List (Addr × Obj)) (s : Shared) (σ : St) (H : Hp) (Q : Bool → Hp → Prop), Inv X pins σ H s → t σ H Q →
    wpAny (model X.prog X.w) X.A (forIn ifs true fun c r => if r = true then do let ok ← isTrue c X.env (eval c X.env); pure (ForInStep.yield ok) else pure (ForInStep.yield r)) (TP X pins σ Q) X.xe s
def tT0 : TT := fun _ H Q => Q true H
theorem pts_nil {X : Cx} : PTs X [] tT0 := fun pins s σ H Q I h => wpAny_tests_nil ⟨H, I, h⟩
theorem pts_one {X : Cx} {c : Expr} {t : TT} (h : PT X c t) : PTs X [c] t := fun pins s σ H Q I q => wpAny_tests_one (h pins s σ H Q I q)
def CompW (J : It) (g : TG) (tt : TT) (te : TE) (acc : Addr) (σ0 : St) (H0 : Hp) (Q : Hp → Prop) : Prop :=
  ∃ W : Nat → Nat → St → Hp → Prop, (∃ m, W 0 m σ0 H0) ∧ ∀ i m σ H, W i m σ H →
    (J.stop i H ∧ Q H) ∨ (J.go i H ∧ ∀ x H1, J.yld i H x H1 → g x σ H1 fun σ2 H2 => tt σ2 H2 fun b H3 =>
      if b = true then te σ2 H3 fun y H4 => ∃ ys, H4 acc = some (.lst ys) ∧ ys.length < sizeLine ∧ ∃ m', m' < m ∧ W (i + 1) m' σ2 (upd H4 acc (.lst (ys ++ [y])))
      else ∃ m', m' < m ∧ W (i + 1) m' σ2 H3)
def tComp (cs : List (Option Nat)) (wi : TI) (g : TG) (tt : TT) (te : TE) : TE := fun σ H Q => wi σ H fun J H1 => ∀ acc, H1 acc = none → CompW J g tt te acc (cst cs σ) (upd H1 acc (.lst [])) (Q (.ref acc))
section
variable {prog : Program} {w : World} {A : Around} {R : Result → Shared → Prop} {s : Shared}
theorem compLoop_any {elt target iter : Expr} {ifs : List Expr} {scope : Scope} {pos : Pos} {it acc : Value} {env : Env} (I : Nat → Shared → Prop)
    (turn : ∀ n s, I n s → wpAny (model prog w) A (pyNext it) (fun r s₁ => match r with
      | none => R (.ok .next) s₁
      | some v => wpAny (model prog w) A (letOwnedTupleGo target it v) (fun _ s₁ => wpAny (model prog w) A (assign target env v) (fun _ s₂ =>
          wpAny (model prog w) A (forIn ifs true fun c r => if r = true then do let ok ← isTrue c env (eval c env); pure (ForInStep.yield ok) else pure (ForInStep.yield r)) (fun ok s₃ =>
            if ok = true then wpAny (model prog w) A (eval elt env) (fun x s₄ =>
              wpAny (model prog w) A (call (.builtin "list.append") [acc, x]) (fun _ s₅ => ∃ m, m < n ∧ I m s₅) (notedBy (model prog w) A env fun e s' => R (.error e) s') s₄) (notedBy (model prog w) A env fun e s' => R (.error e) s') s₃
            else ∃ m, m < n ∧ I m s₃) (notedBy (model prog w) A env fun e s' => R (.error e) s') s₂) (notedBy (model prog w) A env fun e s' => R (.error e) s') s₁) (notedBy (model prog w) A env fun e s' => R (.error e) s') s₁) (notedBy (model prog w) A env fun e s' => R (.error e) s') s)
    (n : Nat) (h : I n s) :
    codeAny (model prog w) A (.compLoop (.ListComp elt [⟨target, iter, ifs, 0⟩] scope pos) 0 it acc env) R s := by
  refine codeAny_loop rfl I (fun n s hI => ?_) n h
  show wpAny _ A ((compTurn (.ListComp elt [⟨target, iter, ifs, 0⟩] scope pos) 0 it acc env).onRaise (fun x => do noteFrame x env; theTreesLotGoes x)) _ _ s
  refine wpAny_noted ?_
  rw [compTurn_list]
  refine wpAny_bind (wpAny_standAt (wpAny_bind (wpAny_mono (turn n s hI) (fun r s₁ h₁ => ?_) fun _ _ h' => h')))
  cases r with
  | none => exact wpAny_pure h₁
  | some v =>
    refine wpAny_bind (wpAny_mono h₁ (fun _ s₁ h₁ => ?_) fun _ _ h' => h')
    refine wpAny_bind (wpAny_mono h₁ (fun _ s₂ h₂ => wpAny_bind (wpAny_mono h₂ (fun ok s₃ h₃ => ?_) fun _ _ h' => h')) fun _ _ h' => h')
    cases ok with
    | false => exact wpAny_pure ⟨rfl, h₃⟩
    | true =>
      exact wpAny_bind (wpAny_bind (wpAny_mono h₃ (fun x s₄ h₄ => wpAny_bind (wpAny_mono h₄ (fun _ s₅ h₅ => wpAny_pure (wpAny_pure ⟨rfl, h₅⟩)) fun _ _ h' => h')) fun _ _ h' => h'))
end
section
variable {X : Cx} {pins : List (Addr × Obj)} {σ : St} {H2 : Hp} {s2 : Shared}
theorem relabel_free {scope : Scope} {env : Env} : ∀ {l : List (Str × NameKind)} {x : Str} {k : NameKind},
    (l.map fun (n, k) => if (k == NameKind.free && env.scope.kind == .function && env.kindOf n == some .cell) then (n, NameKind.cell) else (n, k)).lookup x = some k →
    l.lookup x = some k ∨ (l.lookup x = some .free ∧ k = .cell)
  | [], x, k, h => by simp at h
  | (n, k') :: r, x, k, h => by
    have ih := @relabel_free scope env r x k
    rw [List.map_cons] at h
    by_cases hx : (x == n) = true
    · by_cases hc : (k' == NameKind.free && env.scope.kind == .function && env.kindOf n == some .cell) = true
      · simp only [hc, if_true, List.lookup_cons, hx] at h
        have e : k' = .free := by simp only [Bool.and_eq_true] at hc; simpa using hc.1.1
        simp only [List.lookup_cons, hx]
        exact .inr ⟨by rw [e], (Option.some.inj h).symm⟩
      · simp only [hc, if_false, List.lookup_cons, hx, Bool.false_eq_true] at h
        simp only [List.lookup_cons, hx]
        exact .inl h
    · have hx : (x == n) = false := by simpa using hx
      by_cases hc : (k' == NameKind.free && env.scope.kind == .function && env.kindOf n == some .cell) = true
      · simp only [hc, if_true, List.lookup_cons, hx] at h
        simp only [List.lookup_cons, hx]
        exact ih h
      · simp only [hc, if_false, List.lookup_cons, hx, Bool.false_eq_true] at h
        simp only [List.lookup_cons, hx]
        exact ih h
theorem comp_core {elt target iter : Expr} {ifs : List Expr} {scope : Scope} {pos : Pos} {E : Value → Shared → Prop} {N' : List Str} {cs : List (Option Nat)} {it : Addr} {fp : List Addr} {tn : Nat → Heap → Prop} {J : It} {g : TG} {tt : TT} {te : TE} {Q : VK}
    {RR : Value → Addr → Result → Shared → Prop} (hc : X.calm = true) (F : CsOk X.env.scope X.N N' cs scope)
    (hg : ∀ s3 H3, PG (cxC X N' scope fp s3 H3) target g) (ht : ∀ s3 H3, PTs (cxC X N' scope fp s3 H3) ifs tt) (he : ∀ s3 H3, PE (cxC X N' scope fp s3 H3) elt te)
    (I2 : Inv X pins σ H2 s2) (T : Turn X.prog X.w X.K target J fp it tn) (st2 : tn 0 s2.heap) (f2 : ∀ b ∈ fp, FpOk X pins H2 b)
    (hW : ∀ acc, H2 acc = none → CompW J g tt te acc (cst cs σ) (upd H2 acc (.lst [])) (Q (.ref acc)))
    (hRR : ∀ D C s' H' m, Inv X pins σ H' s' → s'.heap.Ns C m → H' C = none → C ≠ X.env.locals → X.s₀.heap.objs.size ≤ C → (∀ x c, X.env.cells.lookup x = some c → c ≠ C) → (∀ p ∈ X.pn ++ pins, p.1 ≠ C) → Q (.ref D) H' → RR (.ref D) C (.ok .next) s') :
    wpAny (model X.prog X.w) X.A (newList []) (fun acc s₃ => wpAny (model X.prog X.w) X.A (newFunctionEnv scope X.env.globals (clOf X.env scope.names []) [] X.env.qual none .none (some X.env)) (fun cenv s₄ =>
      codeAny (model X.prog X.w) X.A (.compStart (.ListComp elt [⟨target, iter, ifs, 0⟩] scope pos) 0 (.ref it) acc { cenv with scope := relabel scope X.env }) (RR acc cenv.locals) s₄) E s₃) E s2 := by
  refine wpAny_newObj_type (wpAny_newFunctionEnv F.nocell (by intro y hy; simp at hy) (fun h₁ hns₁ hsb₁ => ?_) F.kind)
  dsimp only at hns₁ hsb₁ ⊢
  have hfree : ∀ y ∈ scope.names, y.2 = .free → ∃ c, X.env.cells.lookup y.1 = some c := fun y hy e => I2.ok.has y.1 (F.free y hy e)
  have sub : ∀ x c, (clOf X.env scope.names []).lookup x = some c → X.env.cells.lookup x = some c := fun x c e => clOf_sub scope.names [] hfree (by simp) (x, c) (PySem.mem_of_lookup e)
  obtain ⟨W, ⟨m0, w0⟩, turn⟩ := hW s2.heap.objs.size I2.fresh
  have I3 := I2.lnew (t' := s2.toks) (its := []) (ys := []) .nil (Nat.zero_le _)
  generalize hs3 : ({ s2 with heap := s2.heap.push { cls := .type "list", data := .seq ([] : List Value).toArray }, toks := s2.toks } : Shared) = s3 at I3
  generalize hH3 : upd H2 s2.heap.objs.size (HO.lst []) = H3 at I3 w0
  have e3 : s2.heap.push { cls := .type "list", dict := none, data := .seq ([] : List Value).toArray } = s3.heap := by rw [← hs3]
  rw [e3] at hns₁ hsb₁ ⊢
  have old : ∀ b o, s3.heap.get? b = some o → h₁.get? b = some o := fun b o e => hsb₁.extBut b o (Nat.ne_of_lt (Heap.lt_size e)) (Heap.get?_push_of_some _ e)
  have sz3 : s3.heap.objs.size = s2.heap.objs.size + 1 := by rw [← hs3]; exact Heap.size_push ..
  have fpn3 : ∀ b ∈ fp, H3 b = none := fun b hb => by
    obtain ⟨o, ho, _⟩ := T.obj 0 _ st2 b hb
    rw [← hH3, upd_ne (Nat.ne_of_lt (Heap.lt_size ho))]
    exact (f2 b hb).1
  have fplt : ∀ b ∈ fp, b < s3.heap.objs.size := fun b hb => by
    obtain ⟨o, ho, _⟩ := T.obj 0 _ st2 b hb
    exact Nat.lt_of_lt_of_le (Heap.lt_size ho) (by rw [sz3]; exact Nat.le_succ _)
  -- the block's own facts
  have okC : (cxC X N' scope fp s3 H3).Ok := by
    refine ⟨I3.ok.mod, F.kind, I3.ok.glob, I3.ok.blt, Nat.le_refl _, fun x y c h1 h2 => I3.ok.inj x y c (sub x c h1) (sub y c h2), fun x hx => ?_, fun x c h => (Bool.false_ne_true h).elim, I3.ok.hd, I3.ok.frames, .inl rfl, fun b hb => ⟨Nat.ne_of_lt (fplt b hb), fun x c e => (f2 b hb).2.2.2.2.1 x c (sub x c e)⟩,
      I3.bs, Nat.le_trans I3.ok.bsz I3.sz, fun b o e hb => ?_, fun b hb z => ?_, I3.stack, I3.stkFree⟩
    · have hx : scope.names.lookup x = some .free := by
        rcases hx with hx | hx
        · rcases relabel_free (scope := scope) (env := X.env) hx with q | ⟨q, _⟩
          · exact absurd rfl (F.nocell _ (PySem.mem_of_lookup q))
          · exact q
        · rcases relabel_free (scope := scope) (env := X.env) hx with q | ⟨q, z⟩
          · exact q
          · cases z
      obtain ⟨c, hm⟩ := clOf_has (env := X.env) scope.names [] x (PySem.mem_of_lookup hx)
      exact lookup_of_mem hm
    · rcases (f2 b hb).2.2.2.1 with z | z
      · exact I3.ok.noex b o e z
      · have h1 := Heap.lt_size e
        have h2 := I3.ok.bsz
        exact absurd (Nat.lt_of_lt_of_le h1 h2) (Nat.not_lt.mpr z)
    · rcases List.mem_cons.mp (I3.stkSub b z) with q | q
      · exact (f2 b hb).2.1 q
      · exact (f2 b hb).2.2.1 q
  have σlen : (cst cs σ).length = N'.length := by unfold cst; rw [List.length_map]; exact F.len
  have IC : Inv (cxC X N' scope fp s3 H3) [] (cst cs σ) H3 { s3 with heap := h₁, toks := s3.toks + ([] : List (Str × Value)).length } := by
    refine ⟨okC, rfl, I3.bare, Un.kept old, ⟨_, hns₁, fun j x v e1 e2 e3 => ?_⟩, fun x c e => ?_, I3.fresh, fun x c e => I3.freeC x c (sub x c e), fun p hp => absurd (show p ∈ ([] : List (Addr × Obj)) from hp) (by simp), I3.hok.kept old, σlen⟩
    · -- a name of the block that has a value is an outer one
      obtain ⟨i, hi, hv⟩ : ∃ i, cs[j]? = some (some i) ∧ σ[i]? = some (some v) := by
        unfold cst at e2
        rw [List.getElem?_map] at e2
        cases q : cs[j]? with
        | none => rw [q] at e2; cases e2
        | some o =>
          rw [q] at e2
          cases o with
          | none => cases e2
          | some i =>
            refine ⟨i, rfl, ?_⟩
            have e2 : (σ[i]?).getD none = some v := Option.some.inj e2
            cases q2 : σ[i]? with
            | none => rw [q2] at e2; cases e2
            | some z => rw [q2] at e2; exact congrArg some e2
      obtain ⟨hN, hf⟩ := F.capt j i x hi e1
      obtain ⟨m, hn, hl⟩ := I3.loc
      have hk := F.free _ (PySem.mem_of_lookup hf) rfl
      obtain ⟨u, r, l⟩ := hl i x v hN hv (.inr hk)
      refine ⟨u, r, .inr ⟨?_, ?_⟩⟩
      · rcases e3 with e3 | e3 | e3
        · rcases relabel_free (scope := scope) (env := X.env) e3 with q | ⟨_, z⟩
          · rw [hf] at q; cases q
          · cases z
        · exact .inl e3
        · exact .inr e3
      · rcases l with ⟨z, _⟩ | ⟨_, c, hc', hcell⟩
        · have z : X.env.scope.names.lookup x = some .local := z
          rcases hk with k | k <;> (rw [k] at z; cases z)
        · obtain ⟨c2, hm⟩ := clOf_has (env := X.env) scope.names [] x (PySem.mem_of_lookup hf)
          obtain ⟨c3, h3⟩ := lookup_of_mem hm
          have e4 := sub x c3 h3
          rw [hc'] at e4
          cases e4
          obtain ⟨o, ho, hd⟩ := hcell
          exact ⟨c, h3, o, old _ _ ho, hd⟩
    · obtain ⟨v, o, ho, hd⟩ := I3.cell x c (sub x c e)
      exact ⟨v, o, old _ _ ho, hd⟩
  have st4 : tn 0 h₁ := T.keep 0 s2.heap h₁ st2 fun b hb o e => old b o (by rw [← e3]; exact Heap.get?_push_of_some _ e)
  -- what stays true of the iterator's objects through the loop
  have stat : ∀ {H' : Hp}, (∀ b ∈ fp, H' b = none) → ∀ b ∈ fp, FpOk (cxC X N' scope fp s3 H3) [] H' b := fun hn b hb =>
    ⟨hn b hb, Nat.ne_of_lt (fplt b hb), okC.exfs b hb, .inl hb, fun x c e => (f2 b hb).2.2.2.2.1 x c (sub x c e), fun p hp => absurd (show p ∈ ([] : List (Addr × Obj)) from hp) (by simp)⟩
  have noE : ∀ {α : Type} {t : Sem α} {Q' : α → Shared → Prop} {E' : Value → Shared → Prop} {s' : Shared}, wpAny (model X.prog X.w) X.A t Q' (fun _ _ => False) s' → wpAny (model X.prog X.w) X.A t Q' E' s' := fun h => wpAny_mono h (fun _ _ q => q) fun _ _ f => f.elim
  -- behind the loop
  have fin : ∀ {σ' : St} {H' : Hp} {s' : Shared}, Inv (cxC X N' scope fp s3 H3) [] σ' H' s' → Q (.ref s2.heap.objs.size) H' → RR (.ref s2.heap.objs.size) s3.heap.objs.size (.ok .next) s' := fun {σ' H' s'} I' q => by
    obtain ⟨m, hn, _⟩ := I'.loc
    refine hRR _ _ s' H' m (I3.call' I'.os I'.base I'.hok I'.bare fun b hb => ?_) hn I'.free (Nat.ne_of_gt I3.lt) I3.sz (fun x c e z => ?_) (fun p hp z => ?_) q
    · obtain ⟨_, g1, _, g3, g4, g5⟩ := f2 b hb
      exact ⟨g3, g1, g4, g5⟩
    · obtain ⟨v, o, ho, _⟩ := I3.cell x c e
      exact absurd (Heap.lt_size ho) (by rw [z]; exact Nat.lt_irrefl _)
    · exact absurd (Heap.lt_size (I3.pin p hp).1) (by rw [z]; exact Nat.lt_irrefl _)
  have loop : codeAny (model X.prog X.w) X.A (.compLoop (.ListComp elt [⟨target, iter, ifs, 0⟩] scope pos) 0 (.ref it) (.ref s2.heap.objs.size) (cxC X N' scope fp s3 H3).env)
      (RR (.ref s2.heap.objs.size) s3.heap.objs.size) { s3 with heap := h₁, toks := s3.toks + ([] : List (Str × Value)).length } := by
    refine compLoop_any (fun n s' => ∃ i σ' H', Inv (cxC X N' scope fp s3 H3) [] σ' H' s' ∧ tn i s'.heap ∧ (∀ b ∈ fp, H' b = none) ∧ W i n σ' H') ?_ m0 ⟨0, _, H3, IC, st4, fpn3, w0⟩
    rintro n s4 ⟨i, σ4, H4, I4, st4, fr4, w4⟩
    rcases turn i n σ4 H4 w4 with ⟨stop, qn⟩ | ⟨go, step⟩
    · refine thn (T.done (cxC X N' scope fp s3 H3) rfl rfl rfl hc i [] s4 σ4 H4 _ I4 (stat fr4) st4 stop) fun r s5 ⟨hr, I5⟩ => ?_
      subst hr
      exact fin I5 qn
    · refine thn (T.item (cxC X N' scope fp s3 H3) rfl rfl rfl hc i [] s4 σ4 H4 _ I4 (stat fr4) st4 go) fun r s5 ⟨u, hr, h5⟩ => ?_
      subst hr
      refine thn h5 fun _ s6 ⟨x, H6, I6, r6, y6, st6, fr6⟩ => ?_
      have I6' := I6.pinned (stat fr6) (T.obj _ _ st6)
      have keepT : ∀ {σ7 : St} {H7 : Hp} {s7 : Shared}, Inv (cxC X N' scope fp s3 H3) ([] ++ pinsAt fp s6.heap) σ7 H7 s7 → tn (i + 1) s7.heap ∧ ∀ b ∈ fp, H7 b = none := fun {σ7 H7 s7} I7 =>
        ⟨T.keep _ _ _ st6 fun b hb o e => (I7.pin (b, o) (List.mem_append_right _ (List.mem_append_right _ (mem_pinsAt hb e)))).1, fun b hb => by
          obtain ⟨o, e, d⟩ := T.obj _ _ st6 b hb
          exact (I7.pin (b, o) (List.mem_append_right _ (List.mem_append_right _ (mem_pinsAt hb e)))).2.1⟩
      refine noE (thn (hg s3 H3 _ s6 σ4 H6 x u _ I6' r6 (step x H6 y6)) fun _ s7 ⟨σ7, H7, I7, q7⟩ => ?_)
      refine noE (thn (ht s3 H3 _ s7 σ7 H7 _ I7 q7) fun b s8 ⟨H8, I8, q8⟩ => ?_)
      cases b with
      | false =>
        rw [if_neg Bool.false_ne_true] at q8 ⊢
        obtain ⟨m', hm, w8⟩ := q8
        obtain ⟨t8, n8⟩ := keepT I8
        exact ⟨m', hm, i + 1, σ7, H8, I8.unpinned, t8, n8, w8⟩
      | true =>
        rw [if_pos rfl] at q8 ⊢
        refine noE (thn (he s3 H3 _ s8 σ7 H8 _ I8 q8) fun v s9 ⟨y, H9, I9, r9, ys, hacc, hz, m', hm, w9⟩ => ?_)
        refine noE (thn (mt_append (X := cxC X N' scope fp s3 H3) _ s9 σ7 H9 (.ref s2.heap.objs.size) [y] (.ref s2.heap.objs.size) [v] (fun _ H' => W (i + 1) m' σ7 H') I9 rfl (.cons r9 .nil) ⟨_, ys, y, rfl, rfl, hacc, hz, w9⟩) fun _ s10 ⟨_, H10, I10, _, w10⟩ => ?_)
        obtain ⟨t10, n10⟩ := keepT I10
        exact ⟨m', hm, i + 1, σ7, H10, I10.unpinned, t10, n10, w10⟩
  have e5 : ({ s2 with heap := h₁, toks := s2.toks + ([] : List (Str × Value)).length } : Shared) = { s3 with heap := h₁, toks := s3.toks + ([] : List (Str × Value)).length } := by rw [← hs3]
  rw [e5]
  exact codeAny_compStart_list loop (T.self _ 0 _ _ _ st4 loop)
end
section
variable {X : Cx}
theorem pe_comp {elt target iter : Expr} {ifs : List Expr} {scope : Scope} {pos : Pos} {wi : TI} {g : TG} {tt : TT} {te : TE} {sc : Scope} {NX : List Str} (N' : List Str) (cs : List (Option Nat)) (hc : X.calm = true)
    (hi : PI X target iter wi) (hg : ∀ fp s3 H3, PG (cxC X N' scope fp s3 H3) target g) (ht : ∀ fp s3 H3, PTs (cxC X N' scope fp s3 H3) ifs tt) (he : ∀ fp s3 H3, PE (cxC X N' scope fp s3 H3) elt te)
    (hsc : X.env.scope = sc) (hN : X.N = NX) (hcs : csOk sc NX N' cs scope = true) (hs : ∀ x, foldedSetIterable iter X.env x = pure x := by intro _; rfl) :
    PE X (.ListComp elt [⟨target, iter, ifs, 0⟩] scope pos) (tComp cs wi g tt te) := by
  intro pins s σ H Q I h
  subst hsc hN
  have F := CsOk.of hcs
  rw [eval_ListComp]
  refine wpAny_comprehension_free (use := none) rfl hs (closure_ok fun y hy e => I.ok.has y.1 (F.free y hy e)) F.kind F.names ?_
  refine thn (hi pins s σ H _ I h) fun v s1 h1 => thn h1 fun itv s2 h2 => ?_
  obtain ⟨it, fp, tn, J, H2, rfl, I2, T, st2, f2, hW⟩ := h2
  refine comp_core (RR := fun acc C => compPost (model X.prog X.w) X.A X.xe none (EP X pins σ Q) acc C) (Q := Q) hc F (hg fp) (ht fp) (he fp) I2 T st2 f2 hW ?_
  intro D C s' H' m I' hn hC hL hsz hcell hpin q
  refine ⟨m, hn, fun h' hs' => ⟨.ref D, H', ?_, rfl, q⟩⟩
  exact I'.turned (t' := s'.toks) (it := C) (fun b o hb e => (hs'.2 b hb).trans e) hC hL (.inr hsz) hcell hpin
theorem ps_setC {i : Nat} {y : Str} {py spos : Pos} {elt target iter : Expr} {ifs : List Expr} {scope : Scope} {pos : Pos} {wi : TI} {g : TG} {tt : TT} {te : TE} {sc : Scope} {NX : List Str} (N' : List Str) (cs : List (Option Nat)) (hc : X.calm = true)
    (hND : X.N.Nodup) (hiN : X.N[i]? = some y) (hy : X.env.scope.names.lookup y = some .local)
    (hi : PI X target iter wi) (hg : ∀ fp s3 H3, PG (cxC X N' scope fp s3 H3) target g) (ht : ∀ fp s3 H3, PTs (cxC X N' scope fp s3 H3) ifs tt) (he : ∀ fp s3 H3, PE (cxC X N' scope fp s3 H3) elt te)
    (hsc : X.env.scope = sc) (hN : X.N = NX) (hcs : csOk sc NX N' cs scope = true)
    (hsw : swapsWith (.ListComp elt [⟨target, iter, ifs, 0⟩] scope pos) (some (.Name y py)) spos.line X.env = pure true)
    (hs : ∀ x, foldedSetIterable iter X.env x = pure x := by intro _; rfl) :
    PS X (.Assign [.Name y py] (.ListComp elt [⟨target, iter, ifs, 0⟩] scope pos) spos) (tAsg (tComp cs wi g tt te) (gName i)) := by
  intro pins s σ H D I h
  subst hsc hN
  have F := CsOk.of hcs
  rw [exec_Assign_Name_used _ _ _ _ hsw]
  refine wpAny_bind (wpAny_standAt (wpAny_bind ?_))
  show wpAny _ X.A (do let _ ← comprehension (.ListComp elt [⟨target, iter, ifs, 0⟩] scope pos) scope X.env _ (newList []) false (eval iter X.env) (some (assign (.Name y py) X.env))) _ _ s
  refine wpAny_bind (wpAny_mono (wpAny_comprehension_free (use := some (assign (.Name y py) X.env)) (Q := fun _ s' => SP X pins D .next s') rfl hs (closure_ok fun y hy e => I.ok.has y.1 (F.free y hy e)) F.kind F.names ?_) (fun _ s' hq => wpAny_pure (wpAny_pure hq)) fun _ _ e => e)
  refine thn (hi pins s σ H _ I h) fun v s1 h1 => thn h1 fun itv s2 h2 => ?_
  obtain ⟨it, fp, tn, J, H2, rfl, I2, T, st2, f2, hW⟩ := h2
  refine comp_core (RR := fun acc C => compPost (model X.prog X.w) X.A X.xe (some (assign (.Name y py) X.env)) (fun _ s' => SP X pins D .next s') acc C) (Q := fun x H' => gName i x σ H' D.nx) hc F (hg fp) (ht fp) (he fp) I2 T st2 f2 hW ?_
  intro A C s' H' m I' hn hC hL hsz hcell hpin q
  show wpAny _ X.A (assign (.Name y py) X.env (.ref A)) _ _ s'
  refine wpAny_assign_Name (store_ok2 I' hND hiN (.inl hy) (v := .ref A) rfl (fun s'' I'' ⟨a, hsa, ha⟩ => ?_) (.inr hy))
  have hCa : C ≠ a := by
    rcases ha with rfl | ha
    · exact hL
    · exact fun z => hcell _ _ ha z.symm
  refine ⟨m, hn.sameBut hsa hCa, fun h' hs' => ⟨_, H', ?_, q⟩⟩
  exact I''.turned (t' := s''.toks) (it := C) (fun b o hb e => (hs'.2 b hb).trans e) hC hL (.inr hsz) hcell hpin
end
end L3
namespace L3
open PySem PySem.Spec PyProof.Rows L2
section
variable {X : Cx}
def rInsert : V → List V → Hp → VK → Prop := fun x vs H Q => ∃ l xs i y, x = .ref l ∧ vs = [.int i, y] ∧ H l = some (.lst xs) ∧ 0 ≤ i ∧ i ≤ xs.length ∧ xs.length < sizeLine ∧ Q .non (upd H l (.lst (xs.take i.toNat ++ y :: xs.drop i.toNat)))
theorem insert_eq (its : List Value) (i : Int) (u : Value) (h0 : 0 ≤ i) (h1 : i ≤ its.length) :
    (fun xs : Array Value => have k := if i < 0 then (i + ((xs.size : Nat) : Int)).toNat else min i.toNat xs.size; (xs.extract 0 k).push u ++ xs.extract k) its.toArray = (its.take i.toNat ++ u :: its.drop i.toNat).toArray := by
  have e : (if i < 0 then (i + ((its.toArray.size : Nat) : Int)).toNat else min i.toNat its.toArray.size) = i.toNat := by
    rw [if_neg (by omega), List.size_toArray]; omega
  show ((its.toArray.extract 0 _).push u ++ its.toArray.extract _) = _
  rw [e]
  apply Array.ext'
  simp
  exact List.take_of_length_le (by rw [List.length_drop]; omega)
theorem mt_insert : MtM X "list.insert" rInsert := by
  intro pins s σ H x vs v us Q I rx rv h
  obtain ⟨l, xs, i, y, rfl, rfl, hH, h0, h1, hz, q⟩ := h
  cases rx
  obtain ⟨u1, u2, rfl, ⟨t, rfl⟩, ru⟩ := rv.two
  obtain ⟨z, its, n, r, hl, e⟩ := I.lstM hH
  have hs := sizeLine_eq
  have hfit : ¬ (!Builtin.List.listFitsIndex i) = true := by
    have q : Builtin.List.listFitsIndex i = true := by
      unfold Builtin.List.listFitsIndex
      simp only [Bool.and_eq_true, decide_eq_true_eq]
      constructor <;> omega
    rw [q]; decide
  refine call_meets F.slot_list_insert ⟨_, e, rfl⟩ F.entry_list_insert (F.args_list_insert_3 _ _ _) (AutoListH.list_insert_list_int_val_1 l its.toArray n i t u2 hfit (by rw [List.size_toArray]; omega)) ⟨e, ?_⟩
  refine ⟨.non, _, I.lset (its' := its.take i.toNat ++ u2 :: its.drop i.toNat) hH e (insert_eq its i u2 h0 (by omega)) ((r.take _).append (.cons ru (r.drop _))) ?_, rfl, q⟩
  simp only [List.length_append, List.length_take, List.length_cons, List.length_drop]
  omega
def tTupN (t : TA) : TE := fun σ H Q => t σ H fun xs H1 => xs.length ≤ sizeLine ∧ New H1 (.tup xs) Q
def tLstN (t : TA) : TE := fun σ H Q => t σ H fun xs H1 => xs.length ≤ sizeLine ∧ New H1 (.lst xs) Q
theorem pe_tupN {es : List Expr} {t : TA} {x1} {pos : Pos} (h : PA X es t) : PE X (.Tuple es x1 pos) (tTupN t) := by
  intro pins s σ H Q I hq
  refine wpAny_Tuple_spliced (thn (h pos pins s σ H _ I hq) fun us s1 ⟨xs, H1, I1, r, z, q⟩ => ⟨by rw [← r.length]; exact z, ?_⟩)
  refine ⟨.ref s1.heap.objs.size, upd H1 s1.heap.objs.size (.tup xs), I1.laid (t' := s1.toks) (fun b u e => Heap.get?_push_of_some _ e) (Nat.le_refl _) ?_, rfl, q.at I1.fresh⟩
  exact ⟨z, us, r, ⟨_, Heap.get?_push_size _ rfl, rfl, _, rfl⟩⟩
theorem pe_lstN {es : List Expr} {t : TA} {pos : Pos} (h : PA X es t) : PE X (.List es pos) (tLstN t) := by
  intro pins s σ H Q I hq
  refine wpAny_List_spliced (thn (h pos pins s σ H _ I hq) fun us s1 ⟨xs, H1, I1, r, z, q⟩ => ⟨by rw [← r.length]; exact z, ?_⟩)
  refine ⟨.ref s1.heap.objs.size, upd H1 s1.heap.objs.size (.lst xs), I1.laid (t' := s1.toks) (fun b u e => Heap.get?_push_of_some _ e) (Nat.le_refl _) ?_, rfl, q.at I1.fresh⟩
  exact ⟨z, us, 0, r, Heap.get?_push_size _ rfl⟩
def rTupleN (K : PySem.W.Frag) : List V → Hp → VK → Prop := fun xs H Q => ∃ p ys, xs = [.ref p] ∧ ((SqL K H p ys ∧ New H (.tup ys) Q) ∨ (SqT K H p ys ∧ Q (.ref p) H))
theorem call_tupleN : CallR X (.type "tuple") (rTupleN X.K) := by
  intro pins s σ H xs us Q I r h
  obtain ⟨p, ys, e, hq⟩ := h
  refine call_tuple_of pins s σ H xs us Q I r ⟨p, ys, e, ?_⟩
  rcases hq with ⟨h1, h2⟩ | h
  · exact .inl ⟨h1, fun l n => h2.at n⟩
  · exact .inr h
def rSlN (K : PySem.W.Frag) : V → Option Int → Option Int → Hp → VK → Prop := fun x lo hi H Q => ∃ a xs, x = .ref a ∧ SqL K H a xs ∧ New H (.lst (cutV xs lo hi)) Q
theorem sl_listN : SlR X (rSlN X.K) := by
  intro pins s σ H x v vl vu lo hi sl Q I rx hs pl pu h
  obtain ⟨a, xs, e, hx, q⟩ := h
  exact sl_list pins s σ H x v vl vu lo hi sl Q I rx hs pl pu ⟨a, xs, e, hx, fun p n => q.at n⟩
def tDictN : TE := fun _ H Q => New H (.dK []) Q
theorem pe_dictN {pos : Pos} : PE X (.Dict [] [] pos) tDictN := fun pins s σ H Q I h => pe_dnewK pins s σ H Q I fun p n => h.at n
end
end L3
namespace L3
open PySem PySem.Spec PyProof.Rows L2
inductive D where
  | non | bl (b : Bool) | int (i : Int) | str (x : Str) | tup (xs : List D) | lst (xs : List D) | emp
mutual
def D.dep : D → Nat
  | .tup xs => deps xs + 1
  | .lst xs => deps xs + 1
  | _ => 0
def deps : List D → Nat
  | [] => 0
  | x :: r => max x.dep (deps r)
end
mutual
/-- what == tells -/
def D.eqv : D → D → Bool
  | .non, .non => true
  | .bl a, .bl b => a == b
  | .bl a, .int j => (if a then 1 else 0) == j
  | .int i, .bl b => i == (if b then 1 else 0)
  | .int i, .int j => i == j
  | .str x, .str y => x == y
  | .tup xs, .tup ys => eqvs xs ys
  | .lst xs, .lst ys => eqvs xs ys
  | .emp, .emp => true
  | _, _ => false
def eqvs : List D → List D → Bool
  | [], [] => true
  | x :: r, y :: q => x.eqv y && eqvs r q
  | _, _ => false
end
mutual
theorem D.eqv_refl : ∀ d : D, d.eqv d = true
  | .non => rfl
  | .bl b => by simp [D.eqv]
  | .int i => by simp [D.eqv]
  | .str x => by simp [D.eqv]
  | .tup xs => by rw [D.eqv]; exact eqvs_refl xs
  | .lst xs => by rw [D.eqv]; exact eqvs_refl xs
  | .emp => rfl
theorem eqvs_refl : ∀ xs : List D, eqvs xs xs = true
  | [] => rfl
  | x :: r => by rw [eqvs, D.eqv_refl x, eqvs_refl r]; rfl
end
mutual
/-- no bool and no dict in it -/
def D.pure : D → Bool
  | .bl _ => false
  | .emp => false
  | .tup xs => pures xs
  | .lst xs => pures xs
  | _ => true
def pures : List D → Bool
  | [] => true
  | x :: r => x.pure && pures r
end
mutual
theorem D.eqv_iff : ∀ d e : D, d.pure = true → e.pure = true → d.eqv e = true → d = e
  | .non, e, _, pe, h => by cases e <;> simp_all [D.eqv]
  | .bl b, e, pd, _, _ => by simp [D.pure] at pd
  | .int i, e, _, pe, h => by cases e <;> simp_all [D.eqv, D.pure]
  | .str x, e, _, pe, h => by cases e <;> simp_all [D.eqv]
  | .tup xs, e, pd, pe, h => by
    cases e with
    | tup ys => rw [D.eqv] at h; rw [D.pure] at pd pe; rw [eqvs_iff xs ys pd pe h]
    | _ => simp [D.eqv] at h
  | .lst xs, e, pd, pe, h => by
    cases e with
    | lst ys => rw [D.eqv] at h; rw [D.pure] at pd pe; rw [eqvs_iff xs ys pd pe h]
    | _ => simp [D.eqv] at h
  | .emp, e, _, pe, h => by cases e <;> simp_all [D.eqv]
theorem eqvs_iff : ∀ xs ys : List D, pures xs = true → pures ys = true → eqvs xs ys = true → xs = ys
  | [], ys, _, _, h => by cases ys <;> simp_all [eqvs]
  | x :: r, [], _, _, h => by simp [eqvs] at h
  | x :: r, y :: q, px, py, h => by
    rw [pures, Bool.and_eq_true] at px py
    rw [eqvs, Bool.and_eq_true] at h
    rw [D.eqv_iff x y px.1 py.1 h.1, eqvs_iff r q px.2 py.2 h.2]
end
theorem eqv_ne {d e : D} (pd : d.pure = true) (pe : e.pure = true) (h : d ≠ e) : d.eqv e = false := by
  cases q : d.eqv e with
  | false => rfl
  | true => exact absurd (D.eqv_iff d e pd pe q) h
mutual
inductive Rep (H : Hp) : V → D → Prop
  | non : Rep H .non .non
  | bl (b : Bool) : Rep H (.bl b) (.bl b)
  | int (i : Int) : Rep H (.int i) (.int i)
  | str (x : Str) : Rep H (.str x) (.str x)
  | tup {a : Addr} {vs : List V} {xs : List D} : H a = some (.tup vs) → Reps H vs xs → Rep H (.ref a) (.tup xs)
  | lst {a : Addr} {vs : List V} {xs : List D} : H a = some (.lst vs) → Reps H vs xs → Rep H (.ref a) (.lst xs)
  | emp {a : Addr} : H a = some (.dK []) → Rep H (.ref a) .emp
inductive Reps (H : Hp) : List V → List D → Prop
  | nil : Reps H [] []
  | cons {v : V} {d : D} {vs : List V} {ds : List D} : Rep H v d → Reps H vs ds → Reps H (v :: vs) (d :: ds)
end
mutual
theorem Rep.mono {H H' : Hp} {v : V} {d : D} : Rep H v d → Same H H' → Rep H' v d
  | .non, _ => .non
  | .bl b, _ => .bl b
  | .int i, _ => .int i
  | .str x, _ => .str x
  | .tup e r, s => .tup (s _ _ e) (r.mono s)
  | .lst e r, s => .lst (s _ _ e) (r.mono s)
  | .emp e, s => .emp (s _ _ e)
theorem Reps.mono {H H' : Hp} {vs : List V} {ds : List D} : Reps H vs ds → Same H H' → Reps H' vs ds
  | .nil, _ => .nil
  | .cons h r, s => .cons (h.mono s) (r.mono s)
end
theorem Reps.length {H : Hp} : ∀ {vs : List V} {ds : List D}, Reps H vs ds → vs.length = ds.length
  | _, _, .nil => rfl
  | _, _, .cons _ r => by rw [List.length_cons, List.length_cons, r.length]
theorem Reps.get {H : Hp} : ∀ {vs : List V} {ds : List D} {i : Nat} {v : V}, Reps H vs ds → vs[i]? = some v → ∃ d, ds[i]? = some d ∧ Rep H v d
  | _, _, i, v, .nil, e => by simp at e
  | _, _, 0, v, .cons h r, e => by simp at e; subst e; exact ⟨_, rfl, h⟩
  | _, _, i + 1, v, .cons h r, e => by
    obtain ⟨d, h1, h2⟩ := r.get (i := i) (v := v) (by simpa using e)
    exact ⟨d, by simpa using h1, h2⟩
theorem Reps.append {H : Hp} : ∀ {vs ws : List V} {ds es : List D}, Reps H vs ds → Reps H ws es → Reps H (vs ++ ws) (ds ++ es)
  | _, _, _, _, .nil, s => s
  | _, _, _, _, .cons h r, s => .cons h (r.append s)
theorem Reps.ints {H : Hp} : ∀ ns : List Int, Reps H (ns.map V.int) (ns.map D.int)
  | [] => .nil
  | n :: r => .cons (.int n) (Reps.ints r)
def rm (p : Addr) (H : Hp) : Hp := fun b => if b = p then none else H b
theorem rm_self {p : Addr} {H : Hp} : rm p H p = none := by unfold rm; rw [if_pos rfl]
theorem rm_ne {p b : Addr} {H : Hp} (h : b ≠ p) : rm p H b = H b := by unfold rm; rw [if_neg h]
theorem rm_same {p : Addr} {H : Hp} : Same (rm p H) H := fun b o e => by
  by_cases h : b = p
  · rw [h, rm_self] at e; cases e
  · rwa [rm_ne h] at e
theorem rm_mono {p : Addr} {H H' : Hp} (s : Same (rm p H) H') : Same (rm p H) (rm p H') := fun b o e => by
  by_cases h : b = p
  · rw [h, rm_self] at e; cases e
  · rw [rm_ne h]; exact s b o e
theorem rm_of {p : Addr} {H H' : Hp} (s : Same H H') (n : H p = none) : Same H (rm p H') := fun b o e => by
  rw [rm_ne (ne_of_none e n)]; exact s b o e
theorem rm_upd {p : Addr} {H : Hp} {o : HO} : rm p (upd H p o) = rm p H := by
  funext b; unfold rm upd; split <;> rfl
section
variable {X : Cx} {pins : List (Addr × Obj)} {σ : St} {H : Hp} {s : Shared}
theorem get_toArray {us : List Value} {j : Nat} (h : j < us.toArray.size) {v : Value} (e : us[j]? = some v) : us.toArray[j] = v := by
  obtain ⟨h', q⟩ := List.getElem?_eq_some_iff.mp e
  simpa using q
theorem range_all_eqvs (f : Nat → Bool) : ∀ (xs ys : List D), xs.length = ys.length → (∀ (j : Nat) x y, xs[j]? = some x → ys[j]? = some y → f j = x.eqv y) → (List.range xs.length).all f = eqvs xs ys := by
  intro xs
  induction xs generalizing f with
  | nil => intro ys hl _; cases ys with
    | nil => rfl
    | cons _ _ => simp at hl
  | cons x r ih =>
    intro ys hl h
    cases ys with
    | nil => simp at hl
    | cons y q =>
      rw [List.length_cons, List.range_succ_eq_map, List.all_cons, List.all_map, eqvs, h 0 x y rfl rfl]
      congr 1
      exact ih (fun j => f (j + 1)) q (by simpa using hl) fun j x' y' e1 e2 => h (j + 1) x' y' (by simpa using e1) (by simpa using e2)
theorem eqvs_len : ∀ (xs ys : List D), xs.length ≠ ys.length → eqvs xs ys = false
  | [], [], h => absurd rfl h
  | [], _ :: _, _ => rfl
  | _ :: _, [], _ => rfl
  | x :: r, y :: q, h => by rw [eqvs, eqvs_len r q (by simpa using h), Bool.and_false]
def ansAt (xs ys : List D) (j : Nat) : Bool := match xs[j]?, ys[j]? with
  | some x, some y => x.eqv y
  | _, _ => true
theorem range_min_eqvs (xs ys : List D) : ((List.range (min xs.length ys.length)).all (ansAt xs ys) && xs.length == ys.length) = eqvs xs ys := by
  by_cases h : xs.length = ys.length
  · rw [← h, Nat.min_self, beq_self_eq_true, Bool.and_true]
    refine range_all_eqvs _ xs ys h fun j x y e1 e2 => ?_
    unfold ansAt; rw [e1, e2]
  · rw [eqvs_len xs ys h, beq_eq_false_iff_ne.mpr h, Bool.and_false]
theorem IsTup.isT {h : Heap} {a : Addr} {its : Array Value} (t : IsTup h a its) : h.IsTuple a its := by
  first
  | exact t
  | (obtain ⟨o, e, c, n, d⟩ := t; exact ⟨o, e, c, n, d⟩)
  | (obtain ⟨o, e, c, n, d, _⟩ := t; exact ⟨o, e, c, n, d⟩)
mutual
theorem Rep.inj {H : Hp} {v : V} {d e : D} : Rep H v d → Rep H v e → d = e
  | .non, .non => rfl
  | .bl _, .bl _ => rfl
  | .int _, .int _ => rfl
  | .str _, .str _ => rfl
  | .tup e r, .tup e' r' => by rw [e] at e'; cases e'; rw [r.inj r']
  | .tup e r, .lst e' r' => by rw [e] at e'; cases e'
  | .tup e r, .emp e' => by rw [e] at e'; cases e'
  | .lst e r, .tup e' r' => by rw [e] at e'; cases e'
  | .lst e r, .lst e' r' => by rw [e] at e'; cases e'; rw [r.inj r']
  | .lst e r, .emp e' => by rw [e] at e'; cases e'
  | .emp e, .tup e' r' => by rw [e] at e'; cases e'
  | .emp e, .lst e' r' => by rw [e] at e'; cases e'
  | .emp e, .emp e' => rfl
theorem Reps.inj {H : Hp} {vs : List V} {ds es : List D} : Reps H vs ds → Reps H vs es → ds = es
  | .nil, .nil => rfl
  | .cons h r, .cons h' r' => by rw [h.inj h', r.inj r']
end
theorem dep_get : ∀ {xs : List D} {j : Nat} {x : D}, xs[j]? = some x → x.dep ≤ deps xs
  | [], j, x, e => by simp at e
  | y :: r, 0, x, e => by simp at e; subst e; rw [deps]; omega
  | y :: r, j + 1, x, e => by
    have := dep_get (xs := r) (j := j) (x := x) (by simpa using e)
    rw [deps]; omega
theorem pure_get : ∀ {xs : List D} {j : Nat} {x : D}, pures xs = true → xs[j]? = some x → x.pure = true
  | [], j, x, _, e => by simp at e
  | y :: r, 0, x, h, e => by simp at e; subst e; rw [pures, Bool.and_eq_true] at h; exact h.1
  | y :: r, j + 1, x, h, e => by rw [pures, Bool.and_eq_true] at h; exact pure_get (j := j) h.2 (by simpa using e)
theorem tupAt {P : Program} {w : World} (hok : HOk P w H s.heap) {a : Addr} {vs : List V} (e : H a = some (.tup vs)) : ∃ its : List Value, Vals vs its ∧ s.heap.IsTuple a its.toArray := by
  obtain ⟨_, its, r, t⟩ := hok a _ e
  exact ⟨its, r, IsTup.isT t⟩
theorem lstAt {P : Program} {w : World} (hok : HOk P w H s.heap) {a : Addr} {vs : List V} (e : H a = some (.lst vs)) : ∃ its : List Value, Vals vs its ∧ s.heap.IsList a its.toArray := by
  obtain ⟨_, its, n, r, t⟩ := hok a _ e
  exact ⟨its, r, _, t, rfl, n, rfl⟩
theorem items_ans {A : Around} {vs ws : List V} {xs ys : List D} {us zs : List Value} (rx : Reps H vs xs) (ry : Reps H ws ys) (qx : Vals vs us) (qy : Vals ws zs)
    (ih : ∀ (j : Nat) x y v w u z, xs[j]? = some x → ys[j]? = some y → Rep H v x → Rep H w y → RelV v u → RelV w z → SeqAt.EqAt A s u z (x.eqv y)) :
    ∀ j (h1 : j < us.toArray.size) (h2 : j < zs.toArray.size), SeqAt.EqAt A s us.toArray[j] zs.toArray[j] (ansAt xs ys j) := fun j h1 h2 => by
  have l1 := qx.length
  have l2 := qy.length
  rw [List.size_toArray] at h1 h2
  have g1 : vs[j]? = some (vs[j]'(by omega)) := List.getElem?_eq_getElem (by omega)
  have g2 : ws[j]? = some (ws[j]'(by omega)) := List.getElem?_eq_getElem (by omega)
  obtain ⟨u, hu, ru⟩ := qx.get g1
  obtain ⟨z, hz, rz⟩ := qy.get g2
  obtain ⟨x, hx, px⟩ := rx.get g1
  obtain ⟨y, hy, py⟩ := ry.get g2
  rw [get_toArray _ hu, get_toArray _ hz]
  unfold ansAt
  rw [hx, hy]
  exact ih j x y _ _ u z hx hy px py ru rz
theorem in1_units (A : Around) : A.in1.units = A.units + 1 := rfl
theorem eqAt_n {P : Program} {w : World} (hok : HOk P w H s.heap) : ∀ (n : Nat) (A : Around) {v w : V} {d e : D} {u z : Value}, d.dep ≤ n → Rep H v d → Rep H w e → RelV v u → RelV w z → d.pure = true → e.pure = true → A.units + n < cLine →
    SeqAt.EqAt A s u z (d.eqv e) := by
  intro n
  induction n with
  | zero =>
    intro A v w d e u z hd rd re ru rz pd pe hu
    cases rd with
    | bl _ => simp [D.pure] at pd
    | emp _ => simp [D.pure] at pd
    | tup _ _ => simp [D.dep] at hd
    | lst _ _ => simp [D.dep] at hd
    | non =>
      cases ru
      cases re with
      | bl _ => simp [D.pure] at pe
      | emp _ => simp [D.pure] at pe
      | non => cases rz; exact SeqAt.EqAt.same .none
      | int j => obtain ⟨t, rfl⟩ := rz; exact SeqAt.EqAt.none_int j t
      | str y => obtain ⟨t, rfl⟩ := rz; exact SeqAt.EqAt.none_str y t
      | tup ea _ => cases rz; obtain ⟨its, _, ht⟩ := tupAt hok ea; exact SeqAt.EqAt.none_tuple ht (by omega)
      | lst ea _ => cases rz; obtain ⟨its, _, ht⟩ := lstAt hok ea; exact SeqAt.EqAt.none_list ht (by omega)
    | int i =>
      obtain ⟨t, rfl⟩ := ru
      cases re with
      | bl _ => simp [D.pure] at pe
      | emp _ => simp [D.pure] at pe
      | non => cases rz; exact SeqAt.EqAt.int_none i t
      | int j => obtain ⟨t', rfl⟩ := rz; exact SeqAt.EqAt.int_int i t j t'
      | str y => obtain ⟨t', rfl⟩ := rz; exact SeqAt.EqAt.int_str i t y t'
      | tup ea _ => cases rz; obtain ⟨its, _, ht⟩ := tupAt hok ea; exact SeqAt.EqAt.int_tuple i t ht (by omega)
      | lst ea _ => cases rz; obtain ⟨its, _, ht⟩ := lstAt hok ea; exact SeqAt.EqAt.int_list i t ht (by omega)
    | str x =>
      obtain ⟨t, rfl⟩ := ru
      cases re with
      | bl _ => simp [D.pure] at pe
      | emp _ => simp [D.pure] at pe
      | non => cases rz; exact SeqAt.EqAt.str_none x t
      | int j => obtain ⟨t', rfl⟩ := rz; exact SeqAt.EqAt.str_int x t j t'
      | str y => obtain ⟨t', rfl⟩ := rz; exact SeqAt.EqAt.str_str x t y t'
      | tup ea _ => cases rz; obtain ⟨its, _, ht⟩ := tupAt hok ea; exact SeqAt.EqAt.str_tuple x t ht (by omega)
      | lst ea _ => cases rz; obtain ⟨its, _, ht⟩ := lstAt hok ea; exact SeqAt.EqAt.str_list x t ht (by omega)
  | succ n ih =>
    intro A v w d e u z hd rd re ru rz pd pe hu
    by_cases h0 : d.dep ≤ n
    · exact ih A h0 rd re ru rz pd pe (by omega)
    · have ihn : ∀ {xs ys : List D}, deps xs ≤ n → pures xs = true → pures ys = true → ∀ (j : Nat) x y v w u z, xs[j]? = some x → ys[j]? = some y → Rep H v x → Rep H w y → RelV v u → RelV w z → SeqAt.EqAt A.in1 s u z (x.eqv y) :=
        fun {xs ys} hx px py j x y v w u z e1 e2 r1 r2 q1 q2 => ih A.in1 (Nat.le_trans (dep_get e1) hx) r1 r2 q1 q2 (pure_get px e1) (pure_get py e2) (by rw [in1_units]; omega)
      cases rd with
      | non => simp [D.dep] at h0
      | bl _ => simp [D.dep] at h0
      | int _ => simp [D.dep] at h0
      | str _ => simp [D.dep] at h0
      | emp _ => simp [D.dep] at h0
      | @tup a vs xs ea rs =>
        cases ru
        obtain ⟨its, qi, hi⟩ := tupAt hok ea
        rw [D.dep] at hd
        rw [D.pure] at pd
        cases re with
        | bl _ => simp [D.pure] at pe
        | emp _ => simp [D.pure] at pe
        | non => cases rz; exact SeqAt.EqAt.tuple_none hi (by omega)
        | int j => obtain ⟨t', rfl⟩ := rz; exact SeqAt.EqAt.tuple_int j t' hi (by omega)
        | str y => obtain ⟨t', rfl⟩ := rz; exact SeqAt.EqAt.tuple_str y t' hi (by omega)
        | lst eb _ => cases rz; obtain ⟨its2, _, ht⟩ := lstAt hok eb; exact SeqAt.EqAt.tuple_list hi ht (by omega)
        | @tup b ws ys eb rs2 =>
          cases rz
          rw [D.pure] at pe
          by_cases hab : a = b
          · subst hab
            rw [ea] at eb; cases eb
            rw [rs.inj rs2, D.eqv_refl]
            exact SeqAt.EqAt.same _
          · obtain ⟨its2, qj, hj⟩ := tupAt hok eb
            refine SeqAt.EqAt.of_refs hab ?_
            have q := SeqAt.RcAt.tuples (A := A) hi hj (by omega) (e := ansAt xs ys) (items_ans rs rs2 qi qj (ihn (by omega) pd pe))
            have l1 := qi.length
            have l2 := qj.length
            rw [List.size_toArray, List.size_toArray, ← l1, ← l2, rs.length, rs2.length, range_min_eqvs] at q
            rw [D.eqv]; exact q
      | @lst a vs xs ea rs =>
        cases ru
        obtain ⟨its, qi, hi⟩ := lstAt hok ea
        rw [D.dep] at hd
        rw [D.pure] at pd
        cases re with
        | bl _ => simp [D.pure] at pe
        | emp _ => simp [D.pure] at pe
        | non => cases rz; exact SeqAt.EqAt.list_none hi (by omega)
        | int j => obtain ⟨t', rfl⟩ := rz; exact SeqAt.EqAt.list_int j t' hi (by omega)
        | str y => obtain ⟨t', rfl⟩ := rz; exact SeqAt.EqAt.list_str y t' hi (by omega)
        | tup eb _ => cases rz; obtain ⟨its2, _, ht⟩ := tupAt hok eb; exact SeqAt.EqAt.list_tuple hi ht (by omega)
        | @lst b ws ys eb rs2 =>
          cases rz
          rw [D.pure] at pe
          by_cases hab : a = b
          · subst hab
            rw [ea] at eb; cases eb
            rw [rs.inj rs2, D.eqv_refl]
            exact SeqAt.EqAt.same _
          · obtain ⟨its2, qj, hj⟩ := lstAt hok eb
            refine SeqAt.EqAt.of_refs hab ?_
            have l1 := qi.length
            have l2 := qj.length
            have l3 := rs.length
            have l4 := rs2.length
            by_cases hl : xs.length = ys.length
            · have q := SeqAt.RcAt.lists (A := A) hi hj (by rw [List.size_toArray, List.size_toArray]; omega) (by omega) (e := ansAt xs ys) (items_ans rs rs2 qi qj (ihn (by omega) pd pe))
              have e1 : its.toArray.size = xs.length := by rw [List.size_toArray]; omega
              rw [e1, range_all_eqvs (ansAt xs ys) xs ys hl fun j x y e1 e2 => by unfold ansAt; rw [e1, e2]] at q
              rw [D.eqv]; exact q
            · rw [D.eqv, eqvs_len xs ys hl]
              exact SeqAt.RcAt.lists_lengths hi hj (by rw [List.size_toArray, List.size_toArray]; simp; omega) (by omega)
end
section
variable {X : Cx} {pins : List (Addr × Obj)} {σ : St} {H : Hp} {s : Shared}
theorem rcAt_rep {P : Program} {w : World} (hok : HOk P w H s.heap) (n : Nat) (A : Around) {v w : V} {d e : D} {u z : Value} (hd : d.dep ≤ n) (rd : Rep H v d) (re : Rep H w e) (ru : RelV v u) (rz : RelV w z) (pd : d.pure = true) (pe : e.pure = true) (hu : A.units + n < cLine) :
    SeqAt.RcAt A s u z (d.eqv e) ∧ SeqAt.RcNeAt A s u z (!(d.eqv e)) := by
  have ihn : ∀ {xs ys : List D}, deps xs + 1 ≤ n → pures xs = true → pures ys = true → ∀ (j : Nat) x y v w u z, xs[j]? = some x → ys[j]? = some y → Rep H v x → Rep H w y → RelV v u → RelV w z → SeqAt.EqAt A.in1 s u z (x.eqv y) :=
    fun {xs ys} hx px py j x y v w u z e1 e2 r1 r2 q1 q2 => eqAt_n hok (n - 1) A.in1 (Nat.le_trans (dep_get e1) (by omega)) r1 r2 q1 q2 (pure_get px e1) (pure_get py e2) (by rw [in1_units]; omega)
  cases rd with
  | bl _ => simp [D.pure] at pd
  | emp _ => simp [D.pure] at pd
  | non =>
    cases ru
    cases re with
    | bl _ => simp [D.pure] at pe
    | emp _ => simp [D.pure] at pe
    | non => cases rz; exact ⟨SeqAt.RcAt.none_none, SeqAt.RcNeAt.none_none⟩
    | int j => obtain ⟨t, rfl⟩ := rz; exact ⟨SeqAt.RcAt.none_int j t, SeqAt.RcNeAt.none_int j t⟩
    | str y => obtain ⟨t, rfl⟩ := rz; exact ⟨SeqAt.RcAt.none_str y t, SeqAt.RcNeAt.none_str y t⟩
    | tup ea _ => cases rz; obtain ⟨its, _, ht⟩ := tupAt hok ea; exact ⟨SeqAt.RcAt.none_tuple ht (by omega), SeqAt.RcNeAt.none_tuple ht (by omega)⟩
    | lst ea _ => cases rz; obtain ⟨its, _, ht⟩ := lstAt hok ea; exact ⟨SeqAt.RcAt.none_list ht (by omega), SeqAt.RcNeAt.none_list ht (by omega)⟩
  | int i =>
    obtain ⟨t, rfl⟩ := ru
    cases re with
    | bl _ => simp [D.pure] at pe
    | emp _ => simp [D.pure] at pe
    | non => cases rz; exact ⟨SeqAt.RcAt.int_none i t, SeqAt.RcNeAt.int_none i t⟩
    | int j => obtain ⟨t', rfl⟩ := rz; exact ⟨SeqAt.RcAt.int_int i t j t', SeqAt.RcNeAt.int_int i t j t'⟩
    | str y => obtain ⟨t', rfl⟩ := rz; exact ⟨SeqAt.RcAt.int_str i t y t', SeqAt.RcNeAt.int_str i t y t'⟩
    | tup ea _ => cases rz; obtain ⟨its, _, ht⟩ := tupAt hok ea; exact ⟨SeqAt.RcAt.int_tuple i t ht (by omega), SeqAt.RcNeAt.int_tuple i t ht (by omega)⟩
    | lst ea _ => cases rz; obtain ⟨its, _, ht⟩ := lstAt hok ea; exact ⟨SeqAt.RcAt.int_list i t ht (by omega), SeqAt.RcNeAt.int_list i t ht (by omega)⟩
  | str x =>
    obtain ⟨t, rfl⟩ := ru
    cases re with
    | bl _ => simp [D.pure] at pe
    | emp _ => simp [D.pure] at pe
    | non => cases rz; exact ⟨SeqAt.RcAt.str_none x t, SeqAt.RcNeAt.str_none x t⟩
    | int j => obtain ⟨t', rfl⟩ := rz; exact ⟨SeqAt.RcAt.str_int x t j t', SeqAt.RcNeAt.str_int x t j t'⟩
    | str y => obtain ⟨t', rfl⟩ := rz; exact ⟨SeqAt.RcAt.str_str x t y t', SeqAt.RcNeAt.str_str x t y t'⟩
    | tup ea _ => cases rz; obtain ⟨its, _, ht⟩ := tupAt hok ea; exact ⟨SeqAt.RcAt.str_tuple x t ht (by omega), SeqAt.RcNeAt.str_tuple x t ht (by omega)⟩
    | lst ea _ => cases rz; obtain ⟨its, _, ht⟩ := lstAt hok ea; exact ⟨SeqAt.RcAt.str_list x t ht (by omega), SeqAt.RcNeAt.str_list x t ht (by omega)⟩
  | @tup a vs xs ea rs =>
    cases ru
    obtain ⟨its, qi, hi⟩ := tupAt hok ea
    rw [D.dep] at hd
    rw [D.pure] at pd
    cases re with
    | bl _ => simp [D.pure] at pe
    | emp _ => simp [D.pure] at pe
    | non => cases rz; exact ⟨SeqAt.RcAt.tuple_none hi (by omega), SeqAt.RcNeAt.tuple_none hi (by omega)⟩
    | int j => obtain ⟨t', rfl⟩ := rz; exact ⟨SeqAt.RcAt.tuple_int j t' hi (by omega), SeqAt.RcNeAt.tuple_int j t' hi (by omega)⟩
    | str y => obtain ⟨t', rfl⟩ := rz; exact ⟨SeqAt.RcAt.tuple_str y t' hi (by omega), SeqAt.RcNeAt.tuple_str y t' hi (by omega)⟩
    | lst eb _ => cases rz; obtain ⟨its2, _, ht⟩ := lstAt hok eb; exact ⟨SeqAt.RcAt.tuple_list hi ht (by omega), SeqAt.RcNeAt.tuple_list hi ht (by omega)⟩
    | @tup b ws ys eb rs2 =>
      cases rz
      rw [D.pure] at pe
      obtain ⟨its2, qj, hj⟩ := tupAt hok eb
      have l1 := qi.length
      have l2 := qj.length
      have q := SeqAt.RcAt.tuples (A := A) hi hj (by omega) (e := ansAt xs ys) (items_ans rs rs2 qi qj (ihn hd pd pe))
      have q' := SeqAt.RcNeAt.tuples (A := A) hi hj (by omega) (e := ansAt xs ys) (items_ans rs rs2 qi qj (ihn hd pd pe))
      rw [List.size_toArray, List.size_toArray, ← l1, ← l2, rs.length, rs2.length, range_min_eqvs] at q q'
      rw [D.eqv]; exact ⟨q, q'⟩
  | @lst a vs xs ea rs =>
    cases ru
    obtain ⟨its, qi, hi⟩ := lstAt hok ea
    rw [D.dep] at hd
    rw [D.pure] at pd
    cases re with
    | bl _ => simp [D.pure] at pe
    | emp _ => simp [D.pure] at pe
    | non => cases rz; exact ⟨SeqAt.RcAt.list_none hi (by omega), SeqAt.RcNeAt.list_none hi (by omega)⟩
    | int j => obtain ⟨t', rfl⟩ := rz; exact ⟨SeqAt.RcAt.list_int j t' hi (by omega), SeqAt.RcNeAt.list_int j t' hi (by omega)⟩
    | str y => obtain ⟨t', rfl⟩ := rz; exact ⟨SeqAt.RcAt.list_str y t' hi (by omega), SeqAt.RcNeAt.list_str y t' hi (by omega)⟩
    | tup eb _ => cases rz; obtain ⟨its2, _, ht⟩ := tupAt hok eb; exact ⟨SeqAt.RcAt.list_tuple hi ht (by omega), SeqAt.RcNeAt.list_tuple hi ht (by omega)⟩
    | @lst b ws ys eb rs2 =>
      cases rz
      rw [D.pure] at pe
      obtain ⟨its2, qj, hj⟩ := lstAt hok eb
      have l1 := qi.length
      have l2 := qj.length
      have l3 := rs.length
      have l4 := rs2.length
      by_cases hl : xs.length = ys.length
      · have sz : its.toArray.size = its2.toArray.size := by rw [List.size_toArray, List.size_toArray]; omega
        have q := SeqAt.RcAt.lists (A := A) hi hj sz (by omega) (e := ansAt xs ys) (items_ans rs rs2 qi qj (ihn hd pd pe))
        have q' := SeqAt.RcNeAt.lists (A := A) hi hj sz (by omega) (e := ansAt xs ys) (items_ans rs rs2 qi qj (ihn hd pd pe))
        have e1 : its.toArray.size = xs.length := by rw [List.size_toArray]; omega
        rw [e1, range_all_eqvs (ansAt xs ys) xs ys hl fun j x y e1 e2 => by unfold ansAt; rw [e1, e2]] at q q'
        rw [D.eqv]; exact ⟨q, q'⟩
      · rw [D.eqv, eqvs_len xs ys hl]
        have sz : (its.toArray.size != its2.toArray.size) = true := by rw [List.size_toArray, List.size_toArray]; simp; omega
        exact ⟨SeqAt.RcAt.lists_lengths hi hj sz (by omega), SeqAt.RcNeAt.lists_lengths hi hj sz (by omega)⟩
def rEqD (n : Nat) : R2 := fun x y H Q => ∃ d e, Rep H x d ∧ Rep H y e ∧ d.pure = true ∧ e.pure = true ∧ d.dep ≤ n ∧ Q (.bl (d.eqv e)) H
def rNeD (n : Nat) : R2 := fun x y H Q => ∃ d e, Rep H x d ∧ Rep H y e ∧ d.pure = true ∧ e.pure = true ∧ d.dep ≤ n ∧ Q (.bl (!(d.eqv e))) H
theorem op_eqD {n : Nat} (hu : X.A.units + n < cLine) : OpR X (compareOp .Eq) (rEqD n) := by
  intro pins s σ H x y v u Q I rx ry h
  obtain ⟨d, e, rd, re, pd, pe, hd, q⟩ := h
  exact (rcAt_rep I.hok n X.A hd rd re rx ry pd pe hu).1 X.prog X.w X.xe _ ⟨.bl _, H, I, rfl, q⟩
theorem op_neD {n : Nat} (hu : X.A.units + n < cLine) : OpR X (compareOp .NotEq) (rNeD n) := by
  intro pins s σ H x y v u Q I rx ry h
  obtain ⟨d, e, rd, re, pd, pe, hd, q⟩ := h
  exact (rcAt_rep I.hok n X.A hd rd re rx ry pd pe hu).2 X.prog X.w X.xe _ ⟨.bl _, H, I, rfl, q⟩
end
end L3
namespace L3
open PySem PySem.Spec PyProof.Rows L2
section
variable {X : Cx}
def rAddG : R2 := fun x y H Q => match x, y with
  | .int i, .int j => Q (.int (i + j)) H
  | .str a, .str b => a.length + b.length ≤ sizeLine ∧ Q (.str (a ++ b)) H
  | .ref a, .ref b => ∃ xs zs, H a = some (.lst xs) ∧ H b = some (.lst zs) ∧ xs.length + zs.length ≤ sizeLine ∧ New H (.lst (xs ++ zs)) Q
  | _, _ => False
theorem op_addG : OpR X (binaryOp .Add) rAddG := by
  intro pins s σ H x y v u Q I rx ry q
  cases x <;> cases y <;> first
    | exact False.elim q
    | exact op_add pins s σ H _ _ v u Q I rx ry ⟨_, _, rfl, rfl, q⟩
    | exact op_add_str pins s σ H _ _ v u Q I rx ry ⟨_, _, rfl, rfl, q.1, q.2⟩
    | (obtain ⟨xs, zs, h1, h2, h3, h4⟩ := q; exact op_cat pins s σ H _ _ v u Q I rx ry ⟨_, _, xs, zs, rfl, rfl, h1, h2, h3, fun p n => h4.at n⟩)
def rEqG (n : Nat) : R2 := fun x y H Q => match x, y with
  | .int i, .int j => Q (.bl (decide (i = j))) H
  | .bl a, .bl b => Q (.bl (decide (a = b))) H
  | .str a, .str b => Q (.bl (decide (a = b))) H
  | x, y => rEqD n x y H Q
def rNeG (n : Nat) : R2 := fun x y H Q => match x, y with
  | .int i, .int j => Q (.bl (!decide (i = j))) H
  | .bl a, .bl b => Q (.bl (!decide (a = b))) H
  | .str a, .str b => Q (.bl (!decide (a = b))) H
  | x, y => rNeD n x y H Q
theorem decI {i j : Int} : decide (V.int i = V.int j) = decide (i = j) := by simp
theorem decB {i j : Bool} : decide (V.bl i = V.bl j) = decide (i = j) := by simp
theorem decS {i j : Str} : decide (V.str i = V.str j) = decide (i = j) := by simp
theorem op_eqG {n : Nat} (hu : X.A.units + n < cLine) : OpR X (compareOp .Eq) (rEqG n) := by
  intro pins s σ H x y v u Q I rx ry q
  cases x <;> cases y <;> first
    | exact op_eqD hu pins s σ H _ _ v u Q I rx ry q
    | (refine op_eq pins s σ H _ _ v u Q I rx ry ⟨rfl, ?_⟩; rw [decI]; exact q)
    | (refine op_eq pins s σ H _ _ v u Q I rx ry ⟨rfl, ?_⟩; rw [decB]; exact q)
    | (refine op_eq pins s σ H _ _ v u Q I rx ry ⟨rfl, ?_⟩; rw [decS]; exact q)
theorem op_neG {n : Nat} (hu : X.A.units + n < cLine) : OpR X (compareOp .NotEq) (rNeG n) := by
  intro pins s σ H x y v u Q I rx ry q
  cases x <;> cases y <;> first
    | exact op_neD hu pins s σ H _ _ v u Q I rx ry q
    | (refine op_ne pins s σ H _ _ v u Q I rx ry ⟨rfl, ?_⟩; rw [decI]; exact q)
    | (refine op_ne pins s σ H _ _ v u Q I rx ry ⟨rfl, ?_⟩; rw [decB]; exact q)
    | (refine op_ne pins s σ H _ _ v u Q I rx ry ⟨rfl, ?_⟩; rw [decS]; exact q)
def rIxG (K : PySem.W.Frag) : R2 := fun x y H Q => ∃ p xs i v, x = .ref p ∧ y = .int i ∧ (SqL K H p xs ∨ SqT K H p xs) ∧ atI xs i = some v ∧ Q v H
theorem ix_G : IxR X (rIxG X.K) := by
  intro value slice pins s σ H x y v u Q I rx ry q hs
  obtain ⟨p, xs, i, w, h1, h2, h3 | h3, h4, h5⟩ := q
  · exact ix_list value slice pins s σ H x y v u Q I rx ry ⟨p, xs, i, w, h1, h2, h3, h4, h5⟩ hs
  · exact ix_tup value slice pins s σ H x y v u Q I rx ry ⟨p, xs, i, w, h1, h2, h3, h4, h5⟩ hs
def iSeq (K : PySem.W.Frag) (tl : TE) : TI := fun σ H R => tl σ H fun x H1 => ∃ a, x = .ref a ∧ (((∃ xs, SqL K H1 a xs) ∧ R (Itl K a) H1) ∨ ((∃ xs, SqT K H1 a xs) ∧ R (Itt K a) H1))
def tOrG (K : PySem.W.Frag) (ta tb : TE) : TE := fun σ H Q => ta σ H fun x H1 => ∃ k, TruV K x H1 k ∧ if k = true then Q x H1 else tb σ H1 Q
variable {a b : Expr} {rest : List Expr} {ta tb : TE} {pos : Pos}
theorem pe_orG (ha : PE X a ta) (hb : PE X (.BoolOp .Or (b :: rest) pos) tb) : PE X (.BoolOp .Or (a :: b :: rest) pos) (tOrG X.K ta tb) := by
  intro pins s σ H Q I h
  refine BoolOp_or (thn (ha pins s σ H _ I h) fun v s1 ⟨x, H1, I1, r1, k, tv, q1⟩ => ?_)
  refine thn (tru_ok pins s1 σ H1 x v (fun c H2 => H2 = H1 ∧ c = k) I1 r1 ⟨k, tv, rfl, rfl⟩) fun c s2 ⟨H2, I2, e1, e2⟩ => ?_
  subst e1 e2
  cases c with
  | true => rw [if_pos rfl] at q1; exact ⟨x, H2, I2, r1, q1⟩
  | false => rw [if_neg Bool.false_ne_true] at q1; exact hb pins s2 σ H2 Q I2 q1
end
section
variable {X : Cx} {tg : Expr}
theorem pi_seq {l : Expr} {tl : TE} (hl : PE X l tl) : PI X tg l (iSeq X.K tl) := by
  intro pins s σ H R I h
  refine thn (hl pins s σ H _ I h) fun v s1 ⟨x, H1, I1, r1, a, ex, q⟩ => ?_
  subst ex
  cases r1
  rcases q with ⟨⟨xs, hx⟩, q⟩ | ⟨⟨xs, hx⟩, q⟩
  · obtain ⟨its, r, p, hz⟩ := I1.list hx
    refine wpAny_pyIter_list p.isList ?_
    refine ⟨s1.heap.objs.size, [s1.heap.objs.size], _, _, H1, rfl, I1.kept (t' := s1.toks) fun b o e => Heap.get?_push_of_some _ e, turn_list a _, ⟨_, Heap.get?_push_size _ rfl, rfl, rfl⟩, fun b hb => ?_, q⟩
    have e : b = s1.heap.objs.size := by simpa using hb
    subst e
    exact I1.fpOk (Nat.le_refl _) I1.fresh
  · obtain ⟨its, r, p, hz⟩ := I1.tuple hx
    refine wpAny_pyIter_tuple (IsTup.isT p) ?_
    refine ⟨s1.heap.objs.size, [s1.heap.objs.size], _, _, H1, rfl, I1.kept (t' := s1.toks) fun b o e => Heap.get?_push_of_some _ e, turn_tuple a _, ⟨_, Heap.get?_push_size _ rfl, rfl, rfl⟩, fun b hb => ?_, q⟩
    have e : b = s1.heap.objs.size := by simpa using hb
    subst e
    exact I1.fpOk (Nat.le_refl _) I1.fresh
def Cal (P : Program) (w : World) (K : PySem.W.Frag) (mg : Str → Option Value) (base : Heap) (CX : CXT) (k : Nat) (x : Str) (sp : Sp) : Prop :=
  ∃ f fd ps, FnOk P w K mg base CX k f fd ps sp ∧ mg x = some (.ref f) ∧ PySem.W.keepIn K (.ref f) = true ∧ Binds K fd ps []
def tCallF (sp : Sp) (E : XK) (t : TA) : TE := fun σ H Q => t σ H fun vs H1 => sp vs H1 Q E
theorem pe_callF {CX : CXT} {k : Nat} {x : Str} {sp : Sp} {E : XK} {e : Expr} {es : List Expr} {t : TA} {p pos : Pos} (C : Cal X.prog X.w X.K X.mg X.base CX k x sp) (hr : Room k X.A) (hx : Passes CX X E) (hg : Gl X x)
    (ha : PA X (e :: es) t) (hdb : (x == ("__debug__" : Str)) = false := by decide) (he : starEach (e :: es) X.env = (false, eval e X.env) :: starEach es X.env := by rfl) (hpl : (backTo pos (starEach es X.env)).any (·.1) = false := by rfl) :
    PE X (.Call (.Name x p) (e :: es) [] pos) (tCallF sp E t) := by
  obtain ⟨f, fd, ps, F, hm, hk, hb⟩ := C
  have q := pe_call (dvs := []) (ds := []) F hr hg hm hk hb .nil hx ha hdb he hpl (p := p) (pos := pos)
  intro pins s σ H Q I h
  refine q pins s σ H Q I ?_
  show t σ H fun vs H1 => sp (vs ++ []) H1 Q E
  simp only [List.append_nil]
  exact h
theorem Cal.mono {P : Program} {w : World} {K : PySem.W.Frag} {mg : Str → Option Value} {base : Heap} {CX : CXT} {j k : Nat} {x : Str} {sp : Sp} (C : Cal P w K mg base CX j x sp) (h : j ≤ k) : Cal P w K mg base CX k x sp := by
  obtain ⟨f, fd, ps, F, r⟩ := C
  exact ⟨f, fd, ps, F.mono h, r⟩
end
structure Fd (K : PySem.W.Frag) (mg : Str → Option Value) (x : Str) (st : Stmt) (f : Addr) : Prop where
  ex : ∃ fd, Fun K x x st f fd
  at_ : mg x = some (.ref f)
theorem fd_mk {K : PySem.W.Frag} {h : Heap} {mg : Str → Option Value} {x : Str} {st : Stmt} {f : Addr} {oc : Value} {od an : Option Addr} {osl : Array (Option Value)} {kV doc pm cdv ct : Value} (X : K.In h) (G : h.Ns mainGlobals mg)
    (a : PySem.W.nsIn K mainGlobals x = some (some (.ref f))) (l : K.lookup f = some ⟨oc, od, .func (PySem.W.fnOf x x (defArgs st) (defBody st) (defScope st) .none kV doc pm an cdv ct), osl⟩)
    (c : PySem.W.codeIn K cdv x = true) (k : PySem.W.keepIn K (.ref f) = true) : Fd K mg x st f := ⟨⟨_, fun_mk l c k⟩, PySem.W.mg_of X G a⟩
end L3
namespace L3
open PySem PySem.Spec PyProof.Rows L2
theorem hu_n {A : Around} {k : Nat} (hr : Room k A) : A.units + 150 < cLine := by have := hr.un; omega
theorem atI_mem {α : Type} {xs : List α} {i : Int} (h0 : 0 ≤ i) (h1 : i < xs.length) : ∃ v, atI xs i = some v ∧ v ∈ xs := by
  have hlt : i.toNat < xs.length := by omega
  refine ⟨xs[i.toNat], ?_, List.getElem_mem hlt⟩
  have e : ((i.toNat : Nat) : Int) = i := by omega
  have := atI_nat (xs := xs) (j := i.toNat) (v := xs[i.toNat]) (List.getElem?_eq_getElem hlt)
  rw [e] at this
  exact this
theorem atI_ints {ns : List Int} {i : Int} (h0 : 0 ≤ i) (h1 : i < ns.length) : ∃ n, atI (ns.map V.int) i = some (.int n) ∧ n ∈ ns := by
  obtain ⟨v, e, m⟩ := atI_mem (xs := ns.map V.int) h0 (by rw [List.length_map]; exact h1)
  obtain ⟨n, hn, rfl⟩ := List.mem_map.mp m
  exact ⟨n, e, hn⟩
theorem sizeBig {n : Nat} (h : n ≤ 100000) : n < sizeLine := Nat.lt_of_le_of_lt h (by decide)
theorem sizeBig' {n : Nat} (h : n ≤ 100000) : n ≤ sizeLine := Nat.le_of_lt (sizeBig h)
section
variable {g : TG} {tt : TT} {te : TE} {acc : Addr} {σ0 : St} {H0 : Hp} {Q : Hp → Prop}
@[irreducible] def CPost (Pv : Nat → List V → St → Hp → Prop) (acc : Addr) (n i : Nat) (σ2 : St) (y : V) (H4 : Hp) : Prop :=
  ∃ ys, H4 acc = some (.lst ys) ∧ ys.length < sizeLine ∧ ∃ m', m' < n - i ∧ m' = n - (i + 1) ∧ i + 1 ≤ n ∧ ∃ zs, Pv (i + 1) zs σ2 (upd H4 acc (.lst (ys ++ [y])))
@[irreducible] def CSkip (Pv : Nat → List V → St → Hp → Prop) (n i : Nat) (σ2 : St) (H3 : Hp) : Prop := ∃ m', m' < n - i ∧ m' = n - (i + 1) ∧ i + 1 ≤ n ∧ ∃ zs, Pv (i + 1) zs σ2 H3
theorem cpost {Pv : Nat → List V → St → Hp → Prop} {n i : Nat} {σ2 : St} {y : V} {H4 : Hp} {ys : List V} (h1 : H4 acc = some (.lst ys)) (h2 : ys.length < sizeLine) (h3 : i < n) (h4 : Pv (i + 1) (ys ++ [y]) σ2 (upd H4 acc (.lst (ys ++ [y])))) : CPost Pv acc n i σ2 y H4 :=
  by unfold CPost; exact ⟨ys, h1, h2, n - (i + 1), by omega, rfl, h3, _, h4⟩
theorem cskip {Pv : Nat → List V → St → Hp → Prop} {n i : Nat} {σ2 : St} {H4 : Hp} {ys : List V} (h3 : i < n) (h4 : Pv (i + 1) ys σ2 H4) : CSkip Pv n i σ2 H4 := by unfold CSkip; exact ⟨n - (i + 1), by omega, rfl, h3, _, h4⟩
theorem comp_list {K : PySem.W.Frag} {a : Addr} {xs : List V} (Pv : Nat → List V → St → Hp → Prop) (h0 : Pv 0 [] σ0 H0) (hl : ∀ i ys σ H, Pv i ys σ H → SqL K H a xs)
    (hs : ∀ i ys x σ H, xs[i]? = some x → i < xs.length → Pv i ys σ H → g x σ H fun σ2 H2 => tt σ2 H2 fun b H3 => if b = true then te σ2 H3 (CPost Pv acc xs.length i σ2) else CSkip Pv xs.length i σ2 H3)
    (hd : ∀ ys σ H, Pv xs.length ys σ H → Q H) : CompW (Itl K a) g tt te acc σ0 H0 Q := by
  refine ⟨fun i m σ H => m = xs.length - i ∧ i ≤ xs.length ∧ ∃ ys, Pv i ys σ H, ⟨xs.length, by simp, Nat.zero_le _, [], h0⟩, ?_⟩
  rintro i m σ H ⟨rfl, hi, ys, p⟩
  have q := hl i ys σ H p
  by_cases hlt : i < xs.length
  · refine .inr ⟨⟨xs, xs[i], q, by simp [hlt]⟩, fun x H1 y => ?_⟩
    obtain ⟨e, y⟩ := y
    subst e
    have z := hs i ys x σ _ (y xs q) hlt p
    unfold CPost CSkip at z
    exact z
  · have e : i = xs.length := by omega
    subst e
    exact .inl ⟨⟨xs, q, Nat.le_refl _⟩, hd ys σ H p⟩
theorem comp_tup {K : PySem.W.Frag} {a : Addr} {xs : List V} (Pv : Nat → List V → St → Hp → Prop) (h0 : Pv 0 [] σ0 H0) (hl : ∀ i ys σ H, Pv i ys σ H → SqT K H a xs)
    (hs : ∀ i ys x σ H, xs[i]? = some x → i < xs.length → Pv i ys σ H → g x σ H fun σ2 H2 => tt σ2 H2 fun b H3 => if b = true then te σ2 H3 (CPost Pv acc xs.length i σ2) else CSkip Pv xs.length i σ2 H3)
    (hd : ∀ ys σ H, Pv xs.length ys σ H → Q H) : CompW (Itt K a) g tt te acc σ0 H0 Q := by
  refine ⟨fun i m σ H => m = xs.length - i ∧ i ≤ xs.length ∧ ∃ ys, Pv i ys σ H, ⟨xs.length, by simp, Nat.zero_le _, [], h0⟩, ?_⟩
  rintro i m σ H ⟨rfl, hi, ys, p⟩
  have q := hl i ys σ H p
  by_cases hlt : i < xs.length
  · refine .inr ⟨⟨xs, xs[i], q, by simp [hlt]⟩, fun x H1 y => ?_⟩
    obtain ⟨e, y⟩ := y
    subst e
    have z := hs i ys x σ _ (y xs q) hlt p
    unfold CPost CSkip at z
    exact z
  · have e : i = xs.length := by omega
    subst e
    exact .inl ⟨⟨xs, q, Nat.le_refl _⟩, hd ys σ H p⟩
end
end L3
namespace L3
open PySem PySem.Spec PyProof.Rows L2
end L3
namespace L3
open PySem PySem.Spec PyProof.Rows L2
theorem cmL {i j : Int} (h : -(2 ^ 64) < i ∧ i < 2 ^ 64) : CMul i j := .inl h
theorem cmR {i j : Int} (h : -(2 ^ 64) < j ∧ j < 2 ^ 64) : CMul i j := .inr h
theorem rm_of' {p : Addr} {H H' : Hp} (s : Same H H') : Same (rm p H) (rm p H') := rm_mono (rm_same.trans s)
theorem rm_look {p b : Addr} {H H' : Hp} {o : HO} (s : Same (rm p H) H') (h : H b = some o) (hb : b ≠ p) : H' b = some o := s b o (by rw [rm_ne hb]; exact h)
theorem rm_free {p l : Addr} {H H' : Hp} {o : HO} (s : Same (rm p H) H') (h : H' l = none) (hp : H' p = some o) : H l = none := by
  have e := s.free h
  rwa [rm_ne (fun z => by rw [z, hp] at h; cases h)] at e
theorem Fd.none {P : Program} {w : World} {K : PySem.W.Frag} {mg : Str → Option Value} {base : Heap} {x : Str} {st : Stmt} {f : Addr} {ps : List Str} {sp : Sp} (F : Fd K mg x st f)
    (hb : ∀ (kV doc pm : Value) (an : Option Addr) (cdv ct : Value) (us : List Value), us.length = ps.length → bindArgs (PySem.W.fnOf x x (defArgs st) (defBody st) (defScope st) .none kV doc pm an cdv ct) ⟨us, []⟩ = pure (ps.zip us))
    (h : ∀ vs H Q E, ¬ sp vs H Q E) : Cal P w K mg base CX0 0 x sp := by
  obtain ⟨⟨fd, F1⟩, F2⟩ := F
  exact ⟨f, fd, ps, ⟨fun vs H Q E q => (h vs H Q E q).elim, fun A outer s H args us vs Q E _ _ _ _ q => (h vs H Q E q).elim⟩, F2, F1.kp, F1.binds hb⟩
end L3
namespace L3
open PySem
theorem bt_len : bootBuiltins "len" = some (.builtin "len") := by decide +kernel
theorem bt_max : bootBuiltins "max" = some (.builtin "max") := by decide +kernel
theorem bt_sum : bootBuiltins "sum" = some (.builtin "sum") := by decide +kernel
theorem bt_sorted : bootBuiltins "sorted" = some (.builtin "sorted") := by decide +kernel
theorem bt_int : bootBuiltins "int" = some (.type "int") := by decide +kernel
theorem bt_tuple : bootBuiltins "tuple" = some (.type "tuple") := by decide +kernel
theorem bt_set : bootBuiltins "set" = some (.type "set") := by decide +kernel
end L3
namespace L3
open PySem PySem.Spec PyProof.Rows L2
section
variable {X : Cx} {a b e o l : Expr} {es rest : List Expr} {ta tb te to tl : TE} {t : TA} {pos : Pos}
theorem kIx (K : PySem.W.Frag) (hK : X.K = K := by rfl) : IxR X (rIxG K) := by subst hK; exact ix_G
theorem kOr (K : PySem.W.Frag) (ha : PE X a ta) (hb : PE X (.BoolOp .Or (b :: rest) pos) tb) (hK : X.K = K := by rfl) : PE X (.BoolOp .Or (a :: b :: rest) pos) (tOrG K ta tb) := by subst hK; exact pe_orG ha hb
def rLen (K : PySem.W.Frag) : List V → Hp → VK → Prop := fun xs H Q => ∃ p ys, xs = [.ref p] ∧ (SqL K H p ys ∨ SqT K H p ys) ∧ Q (.int ys.length) H
theorem kLen (K : PySem.W.Frag) (hK : X.K = K := by rfl) : CallR X (.builtin "len") (rLen K) := by subst hK; exact call_len_seq
def tTru (K : PySem.W.Frag) (ta : TE) : TT := fun σ H Q => ta σ H fun x H' => ∃ k, TruV K x H' k ∧ Q k H'
theorem kTru (K : PySem.W.Frag) (ha : PE X a ta) (he : ∀ whole, isTrue a X.env whole = (do let v ← whole; standAt a.pos; holding [v] (truthy v))) (hK : X.K = K := by rfl) : PT X a (tTru K ta) := by subst hK; exact pt_truth ha he
theorem kTupleC (K : PySem.W.Frag) (hK : X.K = K := by rfl) : CallR X (.type "tuple") (rTupleN K) := by subst hK; exact call_tupleN
theorem kSl (K : PySem.W.Frag) (hK : X.K = K := by rfl) : SlR X (rSlN K) := by subst hK; exact sl_listN
theorem kSeq {tg : Expr} (K : PySem.W.Frag) (hl : PE X l tl) (hK : X.K = K := by rfl) : PI X tg l (iSeq K tl) := by subst hK; exact pi_seq hl
def notStar : Expr → Bool
  | .Starred _ _ => false
  | _ => true
theorem star_cons {e : Expr} {es : List Expr} {env : Env} (h : notStar e = true) : starEach (e :: es) env = (false, eval e env) :: starEach es env := by
  cases e <;> first
    | rfl
    | cases h
theorem star_nil {env : Env} : starEach [] env = [] := rfl
theorem star_any {pos : Pos} {env : Env} : ∀ es : List Expr, es.all notStar = true → (backTo pos (starEach es env)).any (·.1) = false
  | [], _ => by rw [star_nil]; rfl
  | e :: r, h => by
    rw [List.all_cons, Bool.and_eq_true] at h
    rw [star_cons h.1]
    have := star_any (pos := pos) (env := env) r h.2
    unfold backTo at this ⊢
    rw [List.map_cons, List.any_cons, this]; rfl
theorem star_all {pos : Pos} {env : Env} : ∀ es : List Expr, es.all notStar = true → (backTo pos (starEach es env)).all (fun x => !x.1) = true
  | [], _ => by rw [star_nil]; rfl
  | e :: r, h => by
    rw [List.all_cons, Bool.and_eq_true] at h
    rw [star_cons h.1]
    have := star_all (pos := pos) (env := env) r h.2
    unfold backTo at this ⊢
    rw [List.map_cons, List.all_cons, this]; rfl
theorem all_head {e : Expr} {es : List Expr} (h : (e :: es).all notStar = true) : notStar e = true ∧ es.all notStar = true := by rw [List.all_cons, Bool.and_eq_true] at h; exact h
theorem paC (ha : PE X e te) (hr : PA X es t) (h : notStar e = true := by rfl) : PA X (e :: es) (tCons te t) := pa_cons ha hr (star_cons h)
theorem cF {CX : CXT} {k : Nat} {x : Str} {sp : Sp} {E : XK} {p pos : Pos} (C : Cal X.prog X.w X.K X.mg X.base CX k x sp) (hr : Room k X.A) (hx : Passes CX X E) (hg : Gl X x)
    (ha : PA X (e :: es) t) (hdb : (x == ("__debug__" : Str)) = false := by decide) (h : (e :: es).all notStar = true := by rfl) : PE X (.Call (.Name x p) (e :: es) [] pos) (tCallF sp E t) :=
  pe_callF C hr hx hg ha hdb (star_cons (all_head h).1) (star_any es (all_head h).2)
theorem cB {id : String} {r : List V → Hp → VK → Prop} {x : Str} {p pos : Pos} (hc : CallR X (.builtin id) r) (hg : Gl X x) (hm : X.mg x = none) (hv : bootBuiltins x = some (.builtin id)) (ha : PA X (e :: es) t) (hn : x ≠ "__name__" := by decide) (hdb : (x == ("__debug__" : Str)) = false := by decide)
    (h : (e :: es).all notStar = true := by rfl) : PE X (.Call (.Name x p) (e :: es) [] pos) (tCB r t) := pe_callB hc hg hm hv ha hn hdb (star_cons (all_head h).1) (star_any es (all_head h).2)
theorem cTy {T : String} {r : List V → Hp → VK → Prop} {x : Str} {p pos : Pos} (hc : CallR X (.type T) r) (hg : Gl X x) (hm : X.mg x = none) (hv : bootBuiltins x = some (.type T)) (ha : PA X (e :: es) t) (hn : x ≠ "__name__" := by decide) (hdb : (x == ("__debug__" : Str)) = false := by decide)
    (h : (e :: es).all notStar = true := by rfl) : PE X (.Call (.Name x p) (e :: es) [] pos) (tCB r t) := pe_callTy hc hg hm hv ha hn hdb (star_cons (all_head h).1) (star_any es (all_head h).2)
theorem iRange1 {tg : Expr} {ta : TA} {p pos : Pos} (hg : Gl X "range") (hm : X.mg "range" = none) (ha : PA X [a] ta) (h : notStar a = true := by rfl) : PI X tg (.Call (.Name "range" p) [a] [] pos) (iRng1 ta) := pi_range1 hg hm ha (by rw [star_cons h, star_nil])
theorem kBm {name : Str} {apos cpos : Pos} {T id : String} {r : V → List V → Hp → VK → Prop} (K : PySem.W.Frag) (pa : PlainAttrs T) (slot : Slot T name id) (hty : typeOf (.builtin id) = pure (.type "method_descriptor")) (hm : MtR X id r) (ho : PE X o to) (ha : PA X (e :: es) t)
    (hbase : attributeBase o name X.env (eval o X.env) = eval o X.env := by rfl) (h : (e :: es).all notStar = true := by rfl) (hl : decide ((e :: es).length < 30) = true := by rfl)
    (hline : (apos.endLine == cpos.line) = true := by rfl) (hK : X.K = K := by rfl) :
    PE X (.Call (.Attribute o name apos) (e :: es) [] cpos) (tBM K T r to t) := by
  subst hK
  refine pe_bm pa slot hty hm ho ha hbase ?_ hline (star_cons (all_head h).1) (star_any es (all_head h).2)
  rw [star_all (e :: es) h, Bool.true_and, Bool.and_eq_true]
  exact ⟨rfl, hl⟩
theorem kIn (K : PySem.W.Frag) (hK : X.K = K := by rfl) : OpR X (compareOp .In) (rIn K false) := by subst hK; exact op_in_seq
theorem kNotIn (K : PySem.W.Frag) (hK : X.K = K := by rfl) : OpR X (compareOp .NotIn) (rIn K true) := by subst hK; exact op_notIn_seq
end
end L3
namespace L3
open PySem PySem.Spec PyProof.Rows L2
@[irreducible] def QE (X : Cx) (e : Expr) (t : TE) : Prop := PE X e t
@[irreducible] def QT (X : Cx) (e : Expr) (t : TT) : Prop := PT X e t
@[irreducible] def QW (X : Cx) (e : Expr) (t : TT) : Prop := PW X e t
@[irreducible] def QA (X : Cx) (es : List Expr) (t : TA) : Prop := PA X es t
@[irreducible] def QS (X : Cx) (s : Stmt) (t : TS) : Prop := PS X s t
@[irreducible] def QSs (X : Cx) (s : List Stmt) (t : TS) : Prop := PSs X s t
@[irreducible] def QG (X : Cx) (e : Expr) (t : TG) : Prop := PG X e t
@[irreducible] def QGs (X : Cx) (es : List Expr) (t : TGs) : Prop := PGs X es t
@[irreducible] def QI (X : Cx) (tg e : Expr) (t : TI) : Prop := PI X tg e t
@[irreducible] def QO (X : Cx) (e : Option Expr) (t : TO) : Prop := PO X e t
@[irreducible] def QTs (X : Cx) (es : List Expr) (t : TT) : Prop := PTs X es t
@[irreducible] def ROp (X : Cx) (f : Value → Value → Sem Value) (r : R2) : Prop := OpR X f r
@[irreducible] def RUn (X : Cx) (f : Value → Sem Value) (r : V → Hp → VK → Prop) : Prop := UnR X f r
@[irreducible] def RCall (X : Cx) (f : Value) (r : List V → Hp → VK → Prop) : Prop := CallR X f r
@[irreducible] def RIx (X : Cx) (r : R2) : Prop := IxR X r
@[irreducible] def RMt (X : Cx) (id : String) (r : V → List V → Hp → VK → Prop) : Prop := MtR X id r
@[irreducible] def RSl (X : Cx) (r : V → Option Int → Option Int → Hp → VK → Prop) : Prop := SlR X r
@[irreducible] def RSet (X : Cx) (r : TSet) : Prop := PSet X r
@[irreducible] def RIp (X : Cx) (op : Operator) (r : TIp) : Prop := PIp X op r
section
variable {X : Cx}
theorem QE.un {e : Expr} {t : TE} (h : QE X e t) : PE X e t := by unfold QE at h; exact h
theorem QE.mk {e : Expr} {t : TE} (h : PE X e t) : QE X e t := by unfold QE; exact h
theorem QT.un {e : Expr} {t : TT} (h : QT X e t) : PT X e t := by unfold QT at h; exact h
theorem QT.mk {e : Expr} {t : TT} (h : PT X e t) : QT X e t := by unfold QT; exact h
theorem QW.un {e : Expr} {t : TT} (h : QW X e t) : PW X e t := by unfold QW at h; exact h
theorem QW.mk {e : Expr} {t : TT} (h : PW X e t) : QW X e t := by unfold QW; exact h
theorem QA.un {es : List Expr} {t : TA} (h : QA X es t) : PA X es t := by unfold QA at h; exact h
theorem QA.mk {es : List Expr} {t : TA} (h : PA X es t) : QA X es t := by unfold QA; exact h
theorem QS.un {s : Stmt} {t : TS} (h : QS X s t) : PS X s t := by unfold QS at h; exact h
theorem QS.mk {s : Stmt} {t : TS} (h : PS X s t) : QS X s t := by unfold QS; exact h
theorem QSs.un {s : List Stmt} {t : TS} (h : QSs X s t) : PSs X s t := by unfold QSs at h; exact h
theorem QSs.mk {s : List Stmt} {t : TS} (h : PSs X s t) : QSs X s t := by unfold QSs; exact h
theorem QG.un {e : Expr} {t : TG} (h : QG X e t) : PG X e t := by unfold QG at h; exact h
theorem QG.mk {e : Expr} {t : TG} (h : PG X e t) : QG X e t := by unfold QG; exact h
theorem QGs.un {es : List Expr} {t : TGs} (h : QGs X es t) : PGs X es t := by unfold QGs at h; exact h
theorem QGs.mk {es : List Expr} {t : TGs} (h : PGs X es t) : QGs X es t := by unfold QGs; exact h
theorem QI.un {tg e : Expr} {t : TI} (h : QI X tg e t) : PI X tg e t := by unfold QI at h; exact h
theorem QI.mk {tg e : Expr} {t : TI} (h : PI X tg e t) : QI X tg e t := by unfold QI; exact h
theorem QO.un {e : Option Expr} {t : TO} (h : QO X e t) : PO X e t := by unfold QO at h; exact h
theorem QO.mk {e : Option Expr} {t : TO} (h : PO X e t) : QO X e t := by unfold QO; exact h
theorem QTs.un {es : List Expr} {t : TT} (h : QTs X es t) : PTs X es t := by unfold QTs at h; exact h
theorem QTs.mk {es : List Expr} {t : TT} (h : PTs X es t) : QTs X es t := by unfold QTs; exact h
theorem ROp.un {f : Value → Value → Sem Value} {r : R2} (h : ROp X f r) : OpR X f r := by unfold ROp at h; exact h
theorem ROp.mk {f : Value → Value → Sem Value} {r : R2} (h : OpR X f r) : ROp X f r := by unfold ROp; exact h
theorem RUn.un {f : Value → Sem Value} {r : V → Hp → VK → Prop} (h : RUn X f r) : UnR X f r := by unfold RUn at h; exact h
theorem RUn.mk {f : Value → Sem Value} {r : V → Hp → VK → Prop} (h : UnR X f r) : RUn X f r := by unfold RUn; exact h
theorem RCall.un {f : Value} {r : List V → Hp → VK → Prop} (h : RCall X f r) : CallR X f r := by unfold RCall at h; exact h
theorem RCall.mk {f : Value} {r : List V → Hp → VK → Prop} (h : CallR X f r) : RCall X f r := by unfold RCall; exact h
theorem RIx.un {r : R2} (h : RIx X r) : IxR X r := by unfold RIx at h; exact h
theorem RIx.mk {r : R2} (h : IxR X r) : RIx X r := by unfold RIx; exact h
theorem RMt.un {id : String} {r : V → List V → Hp → VK → Prop} (h : RMt X id r) : MtR X id r := by unfold RMt at h; exact h
theorem RMt.mk {id : String} {r : V → List V → Hp → VK → Prop} (h : MtR X id r) : RMt X id r := by unfold RMt; exact h
theorem RSl.un {r : V → Option Int → Option Int → Hp → VK → Prop} (h : RSl X r) : SlR X r := by unfold RSl at h; exact h
theorem RSl.mk {r : V → Option Int → Option Int → Hp → VK → Prop} (h : SlR X r) : RSl X r := by unfold RSl; exact h
theorem RSet.un {r : TSet} (h : RSet X r) : PSet X r := by unfold RSet at h; exact h
theorem RSet.mk {r : TSet} (h : PSet X r) : RSet X r := by unfold RSet; exact h
theorem RIp.un {op : Operator} {r : TIp} (h : RIp X op r) : PIp X op r := by unfold RIp at h; exact h
theorem RIp.mk {op : Operator} {r : TIp} (h : PIp X op r) : RIp X op r := by unfold RIp; exact h
end
section
variable {X : Cx} {a b c e o l : Expr} {es rest : List Expr} {ta tb tc te to tl : TE} {t : TA} {pos : Pos} {tA tB' : TT}
theorem rAdd : ROp X (binaryOp .Add) rAddG := .mk op_addG
theorem rSub : ROp X (binaryOp .Sub) (rI0 fun i j => .int (i - j)) := .mk op_sub
theorem rMul : ROp X (binaryOp .Mult) (rI CMul fun i j => .int (i * j)) := .mk op_mul
theorem rMod : ROp X (binaryOp .Mod) (rI (fun _ j => 0 < j) fun i j => .int (i % j)) := .mk op_mod
theorem rPow : ROp X (binaryOp .Pow) (rI CPow fun i j => .int (i ^ j.toNat)) := .mk op_pow
theorem rLt : ROp X (compareOp .Lt) (rI0 fun i j => .bl (decide (i < j))) := .mk op_lt
theorem rLe : ROp X (compareOp .LtE) (rI0 fun i j => .bl (decide (i ≤ j))) := .mk op_le
theorem rGt : ROp X (compareOp .Gt) (rI0 fun i j => .bl (decide (j < i))) := .mk op_gt
theorem rGe : ROp X (compareOp .GtE) (rI0 fun i j => .bl (decide (j ≤ i))) := .mk op_ge
theorem rEqq {k : Nat} {A : Around} (hr : Room k A) (hA : X.A = A := by rfl) : ROp X (compareOp .Eq) (rEqG 150) := .mk (op_eqG (by rw [hA]; exact hu_n hr))
theorem rNeq {k : Nat} {A : Around} (hr : Room k A) (hA : X.A = A := by rfl) : ROp X (compareOp .NotEq) (rNeG 150) := .mk (op_neG (by rw [hA]; exact hu_n hr))
theorem rIs : ROp X (compareOp .Is) (fun x y H Q => y = .non ∧ Q (.bl (decide (x = .non))) H) := .mk op_isN
theorem rIsNot : ROp X (compareOp .IsNot) (fun x y H Q => y = .non ∧ Q (.bl (!decide (x = .non))) H) := .mk op_notN
theorem rInn (K : PySem.W.Frag) (hK : X.K = K := by rfl) : ROp X (compareOp .In) (rIn K false) := .mk (kIn K hK)
theorem rNotInn (K : PySem.W.Frag) (hK : X.K = K := by rfl) : ROp X (compareOp .NotIn) (rIn K true) := .mk (kNotIn K hK)
theorem xIx (K : PySem.W.Frag) (hK : X.K = K := by rfl) : RIx X (rIxG K) := .mk (kIx K hK)
theorem xSl (K : PySem.W.Frag) (hK : X.K = K := by rfl) : RSl X (rSlN K) := .mk (kSl K hK)
theorem xSet : RSet X rSetL := .mk set_list
theorem fLen (K : PySem.W.Frag) (hK : X.K = K := by rfl) : RCall X (.builtin "len") (rLen K) := .mk (kLen K hK)
theorem fTuple (K : PySem.W.Frag) (hK : X.K = K := by rfl) : RCall X (.type "tuple") (rTupleN K) := .mk (kTupleC K hK)
def rInt1 : List V → Hp → VK → Prop := fun xs H Q => (∃ i, xs = [.int i] ∧ Q (.int i) H) ∨ ∃ k, xs = [.bl k] ∧ Q (.int (if k then 1 else 0)) H
theorem fInt : RCall X (.type "int") rInt1 := .mk call_int1
theorem mAppend : RMt X "list.append" rAppend := .mk mt_append
theorem mInsert : RMt X "list.insert" rInsert := .mk mt_insert
theorem mExtend : RMt X "list.extend" rExtend := .mk mt_extend
theorem iAdd : RIp X .Add (ipI fun i j => i + j) := .mk ip_add
theorem qv (i : Nat) {x : Str} {pos : Pos} (hN : X.N[i]? = some x := by rfl) (hv : Vis X.env.scope x := by first | exact Or.inl rfl | exact Or.inr (Or.inl rfl) | exact Or.inr (Or.inr rfl)) (hd : (x == ("__debug__" : Str)) = false := by decide)
    (hcd : (x == ("__classdict__" : Str)) = false := by decide) : QE X (.Name x pos) (tVar i) := .mk (pe_var hN hv hd hcd)
theorem qint {i j pos} : QE X (.Constant (.int i) j pos) (tC (.int i)) := .mk pe_int
theorem qbl {b j pos} : QE X (.Constant (.bool b) j pos) (tC (.bl b)) := .mk pe_bl
theorem qnon {j pos} : QE X (.Constant .none j pos) (tC .non) := .mk pe_non
theorem qstr {x j pos} : QE X (.Constant (.str x) j pos) (tC (.str x)) := .mk pe_str
theorem qglobI {x : Str} {i : Int} {pos : Pos} (hg : Gl X x) (hm : ∃ tk, X.mg x = some (.int i tk)) (hd : (x == ("__debug__" : Str)) = false := by decide) : QE X (.Name x pos) (tC (.int i)) := by
  obtain ⟨tk, h⟩ := hm
  exact .mk (pe_glob hg h ⟨tk, rfl⟩ hd)
theorem qop {op : Operator} {r : R2} (ho : ROp X (binaryOp op) r) (ha : QE X a ta) (hb : QE X b tb) : QE X (.BinOp a op b pos) (tOp r ta tb) := .mk (pe_op ho.un ha.un hb.un)
theorem qcmp {op : CmpOp} {r : R2} (ho : ROp X (compareOp op) r) (ha : QE X a ta) (hb : QE X b tb) (hm : behindInMarks op b = false) : QE X (.Compare a [op] [b] pos) (tOp r ta tb) := .mk (pe_cmpR ho.un ha.un hb.un hm)
theorem qor (K : PySem.W.Frag) (ha : QE X a ta) (hb : QE X (.BoolOp .Or (b :: rest) pos) tb) (hK : X.K = K := by rfl) : QE X (.BoolOp .Or (a :: b :: rest) pos) (tOrG K ta tb) := .mk (kOr K ha.un hb.un hK)
theorem qone {op} (h : QE X a te) : QE X (.BoolOp op [a] pos) te := .mk (pe_one h.un)
theorem qif (hc : QT X c tA) (ha : QE X a ta) (hb : QE X b tb) : QE X (.IfExp c a b pos) (tIf tA ta tb) := .mk (pe_ifExp hc.un ha.un hb.un)
theorem qnil : QA X [] tNil := .mk pa_nil
theorem qcons (ha : QE X e te) (hr : QA X es t) (h : notStar e = true := by rfl) : QA X (e :: es) (tCons te t) := .mk (paC ha.un hr.un h)
theorem qtup {x1} (h : QA X es t) : QE X (.Tuple es x1 pos) (tTupN t) := .mk (pe_tupN h.un)
theorem qlst (h : QA X es t) : QE X (.List es pos) (tLstN t) := .mk (pe_lstN h.un)
theorem qdict : QE X (.Dict [] [] pos) tDictN := .mk pe_dictN
theorem qix {r : R2} (hr : RIx X r) (ha : QE X a ta) (hb : QE X b tb) (hs : PlainIx b) : QE X (.Subscript a b pos) (tOp r ta tb) := .mk (pe_ix hr.un ha.un hb.un hs)
theorem qslice {r : V → Option Int → Option Int → Hp → VK → Prop} {lo hi : Option Expr} {t1 t2 : TO} {p2 : Pos} (hr : RSl X r) (he : QE X e te) (hl : QO X lo t1) (hu : QO X hi t2) : QE X (.Subscript e (.Slice lo hi none p2) pos) (tSl r te t1 t2) := .mk (pe_slice hr.un he.un hl.un hu.un)
theorem onone : QO X none tNoPart := .mk po_none
theorem osome (h : QE X e te) : QO X (some e) (tPart te) := .mk (po_some h.un)
theorem qdget {td ty : TE} {i : Expr} {k : Nat} {A : Around} (hr : Room k A) (ho : QE X o td) (hi : QE X i ty) (hs : NoSl i) (hA : X.A = A := by rfl) : QE X (.Subscript o i pos) (tDGet td ty) := .mk (pe_dget (by rw [hA]; exact hu_of hr) ho.un hi.un hs)
theorem qF {CX : CXT} {k : Nat} {x : Str} {sp : Sp} {E : XK} {p pos : Pos} (C : Cal X.prog X.w X.K X.mg X.base CX k x sp) (hr : Room k X.A) (hx : Passes CX X E) (hg : Gl X x)
    (ha : QA X (e :: es) t) (hdb : (x == ("__debug__" : Str)) = false := by decide) (h : (e :: es).all notStar = true := by rfl) : QE X (.Call (.Name x p) (e :: es) [] pos) (tCallF sp E t) := .mk (cF C hr hx hg ha.un hdb h)
theorem qB {id : String} {r : List V → Hp → VK → Prop} {x : Str} {p pos : Pos} (hc : RCall X (.builtin id) r) (hg : Gl X x) (hm : X.mg x = none) (hv : bootBuiltins x = some (.builtin id)) (ha : QA X (e :: es) t) (hn : x ≠ "__name__" := by decide) (hdb : (x == ("__debug__" : Str)) = false := by decide)
    (h : (e :: es).all notStar = true := by rfl) : QE X (.Call (.Name x p) (e :: es) [] pos) (tCB r t) := .mk (cB hc.un hg hm hv ha.un hn hdb h)
theorem qTy {T : String} {r : List V → Hp → VK → Prop} {x : Str} {p pos : Pos} (hc : RCall X (.type T) r) (hg : Gl X x) (hm : X.mg x = none) (hv : bootBuiltins x = some (.type T)) (ha : QA X (e :: es) t) (hn : x ≠ "__name__" := by decide) (hdb : (x == ("__debug__" : Str)) = false := by decide)
    (h : (e :: es).all notStar = true := by rfl) : QE X (.Call (.Name x p) (e :: es) [] pos) (tCB r t) := .mk (cTy hc.un hg hm hv ha.un hn hdb h)
theorem qBm {name : Str} {apos cpos : Pos} {T id : String} {r : V → List V → Hp → VK → Prop} (K : PySem.W.Frag) (pa : PlainAttrs T) (slot : Slot T name id) (hty : typeOf (.builtin id) = pure (.type "method_descriptor")) (hm : RMt X id r) (ho : QE X o to) (ha : QA X (e :: es) t)
    (hbase : attributeBase o name X.env (eval o X.env) = eval o X.env := by rfl) (h : (e :: es).all notStar = true := by rfl) (hl : decide ((e :: es).length < 30) = true := by rfl)
    (hline : (apos.endLine == cpos.line) = true := by rfl) (hK : X.K = K := by rfl) : QE X (.Call (.Attribute o name apos) (e :: es) [] cpos) (tBM K T r to t) := .mk (kBm K pa slot hty hm.un ho.un ha.un hbase h hl hline hK)
theorem tcmp {op : CmpOp} {r : R2} (ho : ROp X (compareOp op) r) (ha : QE X a ta) (hb : QE X b tb) (hm : behindInMarks op b = false) : QT X (.Compare a [op] [b] pos) (tTest (tOp r ta tb)) := .mk (pt_cmpR ho.un ha.un hb.un hm)
theorem ttru (K : PySem.W.Frag) (ha : QE X a ta) (he : ∀ whole, isTrue a X.env whole = (do let v ← whole; standAt a.pos; holding [v] (truthy v))) (hK : X.K = K := by rfl) : QT X a (tTru K ta) := .mk (kTru K ha.un he hK)
theorem tnot (ha : QT X a tA) : QT X (.UnaryOp .Not a pos) (tNot tA) := .mk (pt_not ha.un)
theorem wand1 (ha : QT X a tA) : QW X (.BoolOp .And [a] pos) tA := .mk (pw_and1 ha.un)
theorem wor1 (ha : QT X a tA) : QW X (.BoolOp .Or [a] pos) tA := .mk (pw_or1 ha.un)
theorem wand (ha : QT X a tA) (hb : QW X (.BoolOp .And (b :: rest) pos) tB') : QW X (.BoolOp .And (a :: b :: rest) pos) (tAnd tA tB') := .mk (pw_and ha.un hb.un)
theorem wor (ha : QT X a tA) (hb : QW X (.BoolOp .Or (b :: rest) pos) tB') : QW X (.BoolOp .Or (a :: b :: rest) pos) (tOr tA tB') := .mk (pw_or ha.un hb.un)
theorem QW.tst (h : QW X a tA) : QT X a tA := .mk h.un.pt
theorem gname {i : Nat} {x : Str} (hN : X.N.Nodup) (hi : X.N[i]? = some x) (hx : Loc X.env.scope x) (hf : X.fn x = true ∨ X.env.scope.names.lookup x = some .local := by first | exact .inl rfl | exact .inr rfl | assumption) : QG X (.Name x pos) (gName i) := .mk (pg_name hN hi hx hf)
theorem gsnil : QGs X [] gNil := .mk pgs_nil
theorem gscons {t : TG} {u : TGs} (h1 : QG X e t) (h2 : QGs X es u) (hs : (assignEach (e :: es) X.env).map (·.2) = assign e X.env :: (assignEach es X.env).map (·.2) := by rfl) : QGs X (e :: es) (gCons t u) := .mk (pgs_cons h1.un h2.un hs)
theorem gtup {k : Nat} {t : TGs} {n : Nat} (K : PySem.W.Frag) (hc : X.calm = true) (h : QGs X es t) (hn : (assignEach es X.env).length = n := by rfl) (hst : (assignEach es X.env).findIdx? (·.1) = none := by rfl) (hK : X.K = K := by rfl) : QG X (.Tuple es k pos) (gTup K n t) := by
  subst hK; exact .mk (pg_tup hc h.un hn hst)
theorem gsub {i : Expr} {ti : TE} {t : TSet} (ho : QE X o to) (hi : QE X i ti) (hs : RSet X t) 
    (ha : ∀ v, assign (.Subscript o i pos) X.env v = (do
      let ov ← holding [v] (eval o X.env)
      let iv ← holding [v, ov] (eval i X.env)
      standAt pos
      holding [v, ov, iv] (setItem ov iv v)
      release [v, ov, iv] []) := by intro _; rfl) : QG X (.Subscript o i pos) (gSub to ti t) := .mk (pg_sub ho.un hi.un hs.un ha)
theorem iseq {tg : Expr} (K : PySem.W.Frag) (hl : QE X l tl) (hK : X.K = K := by rfl) : QI X tg l (iSeq K tl) := .mk (kSeq K hl.un hK)
theorem irange1 {tg : Expr} {ta : TA} {p pos : Pos} (hg : Gl X "range") (hm : X.mg "range" = none) (ha : QA X [a] ta) (h : notStar a = true := by rfl) : QI X tg (.Call (.Name "range" p) [a] [] pos) (iRng1 ta) := .mk (iRange1 hg hm ha.un h)
theorem csnil : QTs X [] tT0 := .mk pts_nil
theorem csone (h : QT X c tA) : QTs X [c] tA := .mk (pts_one h.un)
theorem qcomp {elt target iter : Expr} {ifs : List Expr} {scope : Scope} {pos : Pos} {wi : TI} {g : TG} {tt : TT} {te : TE} {sc : Scope} {NX : List Str} (N' : List Str) (cs : List (Option Nat)) (hc : X.calm = true)
    (hi : QI X target iter wi) (hg : ∀ fp s3 H3, QG (cxC X N' scope fp s3 H3) target g) (ht : ∀ fp s3 H3, QTs (cxC X N' scope fp s3 H3) ifs tt) (he : ∀ fp s3 H3, QE (cxC X N' scope fp s3 H3) elt te)
    (hsc : X.env.scope = sc) (hN : X.N = NX) (hcs : csOk sc NX N' cs scope = true) (hs : ∀ x, foldedSetIterable iter X.env x = pure x := by intro _; rfl) :
    QE X (.ListComp elt [⟨target, iter, ifs, 0⟩] scope pos) (tComp cs wi g tt te) :=
  .mk (pe_comp N' cs hc hi.un (fun fp s3 H3 => (hg fp s3 H3).un) (fun fp s3 H3 => (ht fp s3 H3).un) (fun fp s3 H3 => (he fp s3 H3).un) hsc hN hcs hs)
variable {st : Stmt} {sts : List Stmt} {t1 t2 : TS}
theorem bnil : QSs X [] tNext := .mk pss_nil
theorem bcons (h1 : QS X st t1) (h2 : QSs X sts t2) : QSs X (st :: sts) (tSeq t1 t2) := .mk (pss_cons h1.un h2.un)
theorem bone (h1 : QS X st t1) : QSs X [st] t1 := .mk (pss_one h1.un)
theorem sexpr (he : QE X e te) (hs : swapsWith e none pos.line X.env = pure false := by rfl) : QS X (.Expr e pos) (tDrop te) := .mk (ps_expr he.un hs)
theorem sret (he : QE X e te) : QS X (.Return (some e) pos) (tRet te) := .mk (ps_ret he.un)
theorem sif {c : Expr} {a b : List Stmt} {tc : TT} (hc : QT X c tc) (ha : QSs X a t1) (hb : QSs X b t2) : QS X (.If c a b pos) (tIfS tc t1 t2) := .mk (ps_if hc.un ha.un hb.un)
theorem sset {i : Nat} {x : Str} {pos' : Pos} (hN : X.N.Nodup) (hi : X.N[i]? = some x) (hx : Loc X.env.scope x) (he : QE X e te) (hs : swapsWith e (some (.Name x pos')) pos.line X.env = pure false := by rfl) (hf : X.fn x = true ∨ X.env.scope.names.lookup x = some .local := by first | exact .inl rfl | exact .inr rfl | assumption) :
    QS X (.Assign [.Name x pos'] e pos) (tAsg te (gName i)) := .mk (ps_set hN hi hx he.un hs hf)
theorem ssetC {i : Nat} {y : Str} {py spos : Pos} {elt target iter : Expr} {ifs : List Expr} {scope : Scope} {pos : Pos} {wi : TI} {g : TG} {tt : TT} {te : TE} {sc : Scope} {NX : List Str} (N' : List Str) (cs : List (Option Nat)) (hc : X.calm = true)
    (hND : X.N.Nodup) (hiN : X.N[i]? = some y) (hy : X.env.scope.names.lookup y = some .local)
    (hi : QI X target iter wi) (hg : ∀ fp s3 H3, QG (cxC X N' scope fp s3 H3) target g) (ht : ∀ fp s3 H3, QTs (cxC X N' scope fp s3 H3) ifs tt) (he : ∀ fp s3 H3, QE (cxC X N' scope fp s3 H3) elt te)
    (hsc : X.env.scope = sc) (hN : X.N = NX) (hcs : csOk sc NX N' cs scope = true)
    (hsw : swapsWith (.ListComp elt [⟨target, iter, ifs, 0⟩] scope pos) (some (.Name y py)) spos.line X.env = pure true)
    (hs : ∀ x, foldedSetIterable iter X.env x = pure x := by intro _; rfl) :
    QS X (.Assign [.Name y py] (.ListComp elt [⟨target, iter, ifs, 0⟩] scope pos) spos) (tAsg (tComp cs wi g tt te) (gName i)) :=
  .mk (ps_setC N' cs hc hND hiN hy hi.un (fun fp s3 H3 => (hg fp s3 H3).un) (fun fp s3 H3 => (ht fp s3 H3).un) (fun fp s3 H3 => (he fp s3 H3).un) hsc hN hcs hsw hs)
theorem sasg {tg : Expr} {g : TG} (he : QE X e te) (hg : QG X tg g) (hs : swapsWithSole [tg] e pos.line X.env = pure false := by rfl) (hw : swappedStores [tg] e X.env = pure none := by rfl)
    (h1 : (assignEach [tg] X.env).map (·.2) = [assign tg X.env] := by rfl) : QS X (.Assign [tg] e pos) (tAsg te g) := .mk (ps_asg he.un hg.un hs hw h1)
theorem saug {i : Nat} {x : Str} {op : Operator} {ti : TIp} {pos' : Pos} (hN : X.N.Nodup) (hi : X.N[i]? = some x) (hx : Loc X.env.scope x) (he : QE X e te) (ho : RIp X op ti) (hf : X.fn x = true ∨ X.env.scope.names.lookup x = some .local := by first | exact .inl rfl | exact .inr rfl | assumption) :
    QS X (.AugAssign (.Name x pos') op e pos) (tAug i te ti) := .mk (ps_aug hN hi hx he.un ho.un hf)
theorem sdput {i value : Expr} {td ty tv : TE} {pos' : Pos} {k : Nat} {A : Around} (hr : Room k A) (ho : QE X o td) (hi : QE X i ty) (hv : QE X value tv) (hs : swapsWith value (some (.Subscript o i pos')) pos.line X.env = pure false) (hA : X.A = A := by rfl) :
    QS X (.Assign [.Subscript o i pos'] value pos) (sDPut td ty tv) := .mk (ps_dput (by rw [hA]; exact hu_of hr) ho.un hi.un hv.un hs)
theorem sfor {tg iter : Expr} {body : List Stmt} {wi : TI} {g : TG} {tb : TS} (hp : PassesOwn (model X.prog X.w) X.A X.env X.xe) (hc : X.calm = true) (hi : QI X tg iter wi) (hg : QG X tg g) (hb : QSs X body tb)
    (hs : ∀ x, foldedSetIterable iter X.env x = pure x := by intro _; rfl) : QS X (.For tg iter body [] pos) (tFor wi g tb) := .mk (ps_for hp hc hi.un hg.un hb.un hs)
theorem swhile {c : Expr} {body : List Stmt} {tc : TT} {tb : TS} (hp : PassesOwn (model X.prog X.w) X.A X.env X.xe) (hc : QT X c tc) (hb : QSs X body tb) : QS X (.While c body [] pos) (tWhile tc tb) := .mk (ps_while hp hc.un hb.un)
end
theorem split {X : Cx} {body : List Stmt} {D : Ends} {σ : St} {H : Hp} (n : Nat) (M : St → Hp → Prop) (h2 : ∃ t, QSs X (body.drop n) t ∧ ∀ σ' H', M σ' H' → t D σ' H')
    (h1 : ∀ u, QSs X (body.drop n) u → (∀ σ' H', M σ' H' → u D σ' H') → ∃ t, QSs X body t ∧ t D σ H) : ∃ t, QSs X body t ∧ t D σ H := by
  obtain ⟨t, p, q⟩ := h2
  exact h1 t p q
theorem Fd.cal {P : Program} {w : World} {K : PySem.W.Frag} {mg : Str → Option Value} {base : Heap} {x : Str} {st : Stmt} {f : Addr} {N ps : List Str} {k : Nat} {sp : Sp} (F : Fd K mg x st f) (S : FnScope N ps (defScope st))
    (hb : ∀ (kV doc pm : Value) (an : Option Addr) (cdv ct : Value) (us : List Value), us.length = ps.length → bindArgs (PySem.W.fnOf x x (defArgs st) (defBody st) (defScope st) .none kV doc pm an cdv ct) ⟨us, []⟩ = pure (ps.zip us))
    (len : ∀ vs H Q E, sp vs H Q E → vs.length = ps.length)
    (hbody : ∀ (cdv : Value) (A : Around) (outer : List Env) (s : Shared) (H : Hp) (vs : List V) (Q : VK) (E : XK), Room k (A.deeper (envOfC x (defScope st) s.heap.objs.size f cdv)) → sp vs H Q E →
      ∃ t, QSs (cxOf CX0 P w K mg base N x (defScope st) f cdv A outer s H E).nox (defBody st) t ∧ t { nx := fun _ H' => Q .non H', rt := Q } (start N vs) H) : Cal P w K mg base CX0 (k + 1) x sp := by
  obtain ⟨⟨fd, F1⟩, F2⟩ := F
  refine ⟨f, fd, ps, F1.ok S len (fun cdv A outer s H vs Q E hr h => ?_), F2, F1.kp, F1.binds hb⟩
  obtain ⟨t, p, q⟩ := hbody cdv A outer s H vs Q E hr h
  exact ⟨t, p.un, q⟩
end L3
namespace L3
open PySem L2
def D.ty : D → String
  | .non => "NoneType"
  | .bl _ => "bool"
  | .int _ => "int"
  | .str _ => "str"
  | .tup _ => "tuple"
  | .lst _ => "list"
  | .emp => "dict"
theorem Rep.ty {K : PySem.W.Frag} {H : Hp} {v : V} {e : D} (h : Rep H v e) : TyOf K H v (.type e.ty) := by
  cases h with
  | non => exact .non
  | bl b => exact .bl b
  | int i => exact .int i
  | str x => exact .str x
  | tup e _ => exact .tup e
  | lst e _ => exact .lst e
  | emp e => exact .dK e
end L3
namespace L3
open PySem L2
def Blk (X : Cx) (body : List Stmt) (D : Ends) (M : St → Hp → Prop) : Prop := ∃ t, QSs X body t ∧ ∀ σ H, M σ H → t D σ H
theorem Blk.split {X : Cx} {body : List Stmt} {D : Ends} {M : St → Hp → Prop} (n : Nat) (M2 : St → Hp → Prop) (h2 : Blk X (body.drop n) D M2)
    (h1 : ∀ u, QSs X (body.drop n) u → (∀ σ H, M2 σ H → u D σ H) → Blk X body D M) : Blk X body D M := by
  obtain ⟨t, p, q⟩ := h2
  exact h1 t p q
theorem Blk.run {X : Cx} {body : List Stmt} {D : Ends} {M : St → Hp → Prop} {σ : St} {H : Hp} (b : Blk X body D M) (h : M σ H) : ∃ t, QSs X body t ∧ t D σ H := by
  obtain ⟨t, p, q⟩ := b
  exact ⟨t, p, q σ H h⟩
end L3
namespace L3
open PySem L2 PyProof.Rows
theorem okQ {P : Program} {w : World} {K : PySem.W.Frag} {mg : Str → Option Value} {base : Heap} {x : Str} {st : Stmt} {f : Addr} {fd : FuncData} {N ps : List Str} {k : Nat} {sp : Sp} (F : Fun K x x st f fd) (S : FnScope N ps (defScope st))
    (len : ∀ vs H Q E, sp vs H Q E → vs.length = ps.length)
    (hbody : ∀ (cdv : Value) (A : Around) (outer : List Env) (s : Shared) (H : Hp) (vs : List V) (Q : VK) (E : XK), Room k (A.deeper (envOfC x (defScope st) s.heap.objs.size f cdv)) → sp vs H Q E →
      ∃ t, QSs (cxOf CX0 P w K mg base N x (defScope st) f cdv A outer s H E).nox (defBody st) t ∧ t { nx := fun _ H' => Q .non H', rt := Q } (start N vs) H) : FnOk P w K mg base CX0 (k + 1) f fd ps sp := by
  refine F.ok S len (fun cdv A outer s H vs Q E hr h => ?_)
  obtain ⟨t, p, q⟩ := hbody cdv A outer s H vs Q E hr h
  exact ⟨t, p.un, q⟩
end L3
namespace L3
open PySem PySem.Spec PyProof.Rows L2
section
variable {X : Cx}
def CDivB (i j : Int) : Prop := 0 < j ∧ j < 2 ^ 1000
theorem op_fdivB : OpR X (binaryOp .FloorDiv) (rI CDivB fun i j => .int (i / j)) := opI fun i j _ _ _ _ _ hc q => by
  refine floordiv_int (by have := hc.1; omega) (by rw [Int.fdiv_eq_ediv_of_nonneg _ (Int.le_of_lt hc.1)]; exact q) (.inl (PyProof.noPylong_of_log2 ?_))
  by_cases h0 : j.natAbs = 0
  · rw [h0]; decide +kernel
  · have : j.natAbs < 2 ^ 1000 := by have := hc.1; have := hc.2; omega
    exact Nat.lt_trans ((Nat.log2_lt h0).mpr this) (by decide)
theorem rDivB : ROp X (binaryOp .FloorDiv) (rI CDivB fun i j => .int (i / j)) := .mk op_fdivB
def rMaxL (K : PySem.W.Frag) : List V → Hp → VK → Prop := fun xs H Q => ∃ (p : Addr) (ns : List Int), xs = [.ref p] ∧ SqL K H p (ns.map V.int) ∧ 0 < ns.length ∧ ∀ M, M ∈ ns → (∀ a ∈ ns, a ≤ M) → Q (.int M) H
theorem call_maxL (hc : X.calm = true) : CallR X (.builtin "max") (rMaxL X.K) := by
  intro pins s σ H xs us Q I rv h
  obtain ⟨p, ns, rfl, hp, hne, q⟩ := h
  obtain ⟨u, rfl, ru⟩ := vals1 rv
  cases ru
  obtain ⟨its, r, pl, hz⟩ := I.list hp
  have hi := intsAre_of r
  obtain ⟨ys, e⟩ := hi.allInts.items
  have hns : ns = ys.toList.map (·.1) := by rw [← hi.numsOf, ← nums_intItems, ← e]
  have hsz : 0 < ys.size := by
    have h3 := hne; rw [hns, List.length_map, Array.length_toList] at h3; exact h3
  have hl := pl.isList
  rw [e] at hl
  refine max_intList (I.ok.hd hc) hl hsz fun v h' tk hv hk => ?_
  obtain ⟨t, rfl⟩ := intItems_at hv
  obtain ⟨h1, h2⟩ := argBest_gt (numAt ys) (ys.size - 1)
  refine ⟨.int _, H, I.kept hk, ⟨t, rfl⟩, q _ ?_ fun a ha => ?_⟩
  · rw [hns, numAt_eq]; exact getD_mem (by rw [List.length_map, Array.length_toList]; omega)
  · rw [hns] at ha
    obtain ⟨j, hj, rfl⟩ := mem_getD ha
    rw [List.length_map, Array.length_toList] at hj
    rw [← numAt_eq]; exact h2 j (by omega)
def rSumL (K : PySem.W.Frag) : List V → Hp → VK → Prop := fun xs H Q => ∃ (p : Addr) (ns : List Int), xs = [.ref p] ∧ SqL K H p (ns.map V.int) ∧ Q (.int ns.sum) H
theorem call_sumL (hc : X.calm = true) : CallR X (.builtin "sum") (rSumL X.K) := by
  intro pins s σ H xs us Q I rv h
  obtain ⟨p, ns, rfl, hp, q⟩ := h
  obtain ⟨u, rfl, ru⟩ := vals1 rv
  cases ru
  obtain ⟨its, r, pl, hz⟩ := I.list hp
  have hi := intsAre_of r
  obtain ⟨ys, e⟩ := hi.allInts.items
  have hns : ns = ys.toList.map (·.1) := by rw [← hi.numsOf, ← nums_intItems, ← e]
  have hl := pl.isList
  rw [e] at hl
  refine sum_intListG (I.ok.hd hc) hl fun h' tk t' hk => ?_
  refine ⟨.int ns.sum, H, I.kept hk, ⟨t', ?_⟩, q⟩
  rw [preSum_eq, hns, List.take_of_length_le (by rw [List.length_map, Array.length_toList]; exact Nat.le_refl _)]
theorem fMax (K : PySem.W.Frag) (hc : X.calm = true := by rfl) (hK : X.K = K := by rfl) : RCall X (.builtin "max") (rMaxL K) := by subst hK; exact .mk (call_maxL hc)
theorem fSum (K : PySem.W.Frag) (hc : X.calm = true := by rfl) (hK : X.K = K := by rfl) : RCall X (.builtin "sum") (rSumL K) := by subst hK; exact .mk (call_sumL hc)
def rMax2 : List V → Hp → VK → Prop := fun xs H Q => ∃ i j, xs = [.int i, .int j] ∧ Q (.int (if j > i then j else i)) H
theorem fMax2 (hc : X.calm = true := by rfl) : RCall X (.builtin "max") rMax2 := .mk (call_max2 hc)
end
end L3
namespace HT
open PySem PyProof.Rows
section
open PySem.SeqAt
open PySem.AutoSeq1 (wpAny_loadPart')
open PySem.MeetsSeq PySem.MeetsSeq2 PySem.MeetsSeq3
end
section
variable {prog : Program} {w : World} {A : Around} {E : Value → Shared → Prop} {s : Shared}
end
end HT
namespace L3
open PySem PySem.Spec PyProof.Rows L2
section
variable {X : Cx}
theorem vals_of_ints : ∀ {us : List Value} {ns : List Int}, IntsAre us ns → Vals (ns.map V.int) us
  | _, _, .nil => .nil
  | _, _, .cons n t r => .cons ⟨t, rfl⟩ (vals_of_ints r)
def rSortL (K : PySem.W.Frag) : List V → Hp → VK → Prop := fun xs H Q => ∃ (p : Addr) (ns : List Int), xs = [.ref p] ∧ SqL K H p (ns.map V.int) ∧ ns.length < 64 ∧
  ∀ (q : Addr) (H' : Hp) (ns' : List Int), H q = none → Same H H' → H' q = some (.lst (ns'.map V.int)) → ns'.Perm ns → ns'.Pairwise (· ≤ ·) → Q (.ref q) H'
theorem call_sortL : CallR X (.builtin "sorted") (rSortL X.K) := by
  intro pins s σ H xs us Q I rv h
  obtain ⟨p, ns, rfl, hp, hn, q⟩ := h
  obtain ⟨u, rfl, ru⟩ := vals1 rv
  cases ru
  obtain ⟨its, r, pl, hz⟩ := I.list hp
  have hi := intsAre_of r
  have hlen := r.length
  rw [List.length_map] at hlen
  refine sorted_ints pl.isList hi (by omega) fun out ns' a1 a2 a3 => ?_
  obtain ⟨e, he⟩ := sortedAll_at s.heap its out
  have hl' : ns'.length = ns.length := a2.length_eq
  have hf : H (s.heap.objs.size + 1) = none := I.hok.fresh (Nat.le_succ _)
  refine ⟨.ref (s.heap.objs.size + 1), _, I.laid (t' := s.toks) (o := .lst (ns'.map V.int)) (fun b ob q => sortedAll_old q) (Nat.le_succ _) ⟨by rw [List.length_map]; exact Nat.le_of_lt (Nat.lt_of_lt_of_le (by omega : ns'.length < 64) (by decide)), out.toList, e, vals_of_ints a1, he⟩, rfl, q _ _ ns' hf (same_new hf) upd_same a2 a3⟩
theorem fSort (K : PySem.W.Frag) (hK : X.K = K := by rfl) : RCall X (.builtin "sorted") (rSortL K) := by subst hK; exact .mk call_sortL
end
end L3
namespace HT
open PySem PyProof.Rows
section
variable {prog : Program} {w : World} {A : Around} {R : Result → Shared → Prop} {I : Addr} {fp wr : List Addr} {n : Nat} {P : Nat → Value → Prop} {St : Nat → Heap → Prop} {K : Type} [DecidableEq K] {knd : KeyKind prog w K}
end
section
variable {prog : Program} {w : World} {A : Around} {E : Value → Shared → Prop} {s : Shared} {K : Type} [DecidableEq K] {knd : KeyKind prog w K}
end
end HT
namespace L3
open PySem PySem.Spec PyProof.Rows L2
section
variable {X : Cx}
end
end L3
namespace L3
open PySem PySem.Spec PyProof.Rows L2
section
variable {X : Cx} {pins : List (Addr × Obj)} {σ : L2.St} {H : Hp} {s : Shared} {h' : Heap}
end
section
variable {X : Cx}
end
end L3
namespace L3
open PySem PySem.Spec PyProof.Rows L2
section
variable {X : Cx}
variable {o e f : Expr} {apos cpos : Pos} {td ty tx : TE} {k : Nat} {A : Around}
end
end L3
namespace L3
open PySem PySem.Spec PyProof.Rows L2
section
variable {X : Cx} {tg : Expr}
variable {g : TG} {tt : TT} {te : TE} {acc : Addr} {σ0 : L2.St} {H0 : Hp} {Q : Hp → Prop}
end
end L3
namespace L3
open PySem PySem.Spec PyProof.Rows L2
section
variable {X : Cx}
end
section
variable {X : Cx}
end
end L3
namespace L3
open PySem PySem.Spec PyProof.Rows L2
section
variable {X : Cx} {pins : List (Addr × Obj)} {σ : L2.St} {H : Hp} {s : Shared} {a : Addr} {y d : V} {u r : Value} {o : Option V} {A : Around} {E : Value → Shared → Prop}
end
section
variable {X : Cx} {o e f : Expr} {apos cpos : Pos} {td ty tx : TE}
variable {k : Nat} {A : Around}
end
@[irreducible] def QP (X : Cx) (pos : Pos) (ks : List (Option Expr)) (vs : List Expr) (trs : List (TE × TE)) : Prop := PPs X pos ks vs trs
section
variable {X : Cx} {pos : Pos} {kx vx : Expr} {ks : List (Option Expr)} {vs : List Expr} {tk tv : TE} {trs : List (TE × TE)}
theorem QP.un (h : QP X pos ks vs trs) : PPs X pos ks vs trs := by unfold QP at h; exact h
end
end L3
namespace L3
open PySem PySem.Spec PyProof.Rows L2
section
variable {X : Cx}
variable {a b : Expr} {ta tb : TE} {pos : Pos} {k : Nat} {A : Around}
end
end L3
namespace L3
open PySem PySem.Spec PyProof.Rows L2
section
variable {X : Cx}
end
end L3
namespace L3
open PySem PySem.Spec PyProof.Rows L2
section
variable {X : Cx}
end
end L3
namespace L3
open PySem PySem.Spec PyProof.Rows L2
section
variable {prog : Program} {w : World} {A : Around}
variable {R : Result → Shared → Prop} {it : Addr} {fp wr : List Addr} {n : Nat} {P : Nat → Value → Prop} {St : Nat → Heap → Prop} {kw : List (Str × Value)}
end
section
variable {X : Cx}
end
end L3
namespace HT
open PySem PyProof.Rows
abbrev IsZip2 (h : Heap) (z TI TO T : Addr) (b : Bool) : Prop :=
  h.get? z = some { cls := .type "zip", dict := none, data := .fields #[rawInt T, .bool b, .bool false, .ref TI, .ref TO], slots := #[] }
section
variable {prog : Program} {w : World} {A : Around} {E : Value → Shared → Prop} {s : Shared}
end
end HT
namespace HT
open PySem PyProof.Rows
section
variable {prog : Program} {w : World} {A : Around} {E : Value → Shared → Prop} {s : Shared}
def ZS (z TI TO i1 i2 l1 l2 : Addr) (i : Nat) (h : Heap) : Prop :=
  IsPair h TI (.ref i1) (.ref i2) ∧ h.IsListIter i1 l1 i ∧ h.IsListIter i2 l2 i ∧ (∃ a b, IsPair h TO a b) ∧ ((IsZip h z TI TO .none) ∨ ∃ T b o, IsZip2 h z TI TO T b ∧ h.get? T = some o ∧ T ≠ z ∧ T ≠ TO ∧ T ≠ i1 ∧ T ≠ i2)
theorem ZS.frame {z TI TO i1 i2 l1 l2 S : Addr} {i : Nat} {h h' : Heap} {oS : Obj} (hs : ZS z TI TO i1 i2 l1 l2 i h) (hS : S ≠ z ∧ S ≠ TI ∧ S ≠ TO ∧ S ≠ i1 ∧ S ≠ i2) (k : ∀ c o, c ≠ S → h.get? c = some o → h'.get? c = some o) (eS : h'.get? S = some oS) : ZS z TI TO i1 i2 l1 l2 i h' := by
  obtain ⟨hTI, h1, h2, ⟨a, b, hTO⟩, hz⟩ := hs
  obtain ⟨s1, s2, s3, s4, s5⟩ := hS
  refine ⟨k _ _ s2.symm hTI, h1.at fun o e => k _ o s4.symm e, h2.at fun o e => k _ o s5.symm e, ⟨a, b, k _ _ s3.symm hTO⟩, ?_⟩
  rcases hz with hz | ⟨T, c, o, hz, hT, t⟩
  · exact .inl (k _ _ s1.symm hz)
  · by_cases hTS : T = S
    · subst hTS; exact .inr ⟨T, c, oS, k _ _ s1.symm hz, eS, t⟩
    · exact .inr ⟨T, c, o, k _ _ s1.symm hz, k _ _ hTS hT, t⟩
variable {R : Result → Shared → Prop} {K : Type} [DecidableEq K] {knd : KeyKind prog w K}
end
end HT
namespace L3
open PySem PySem.Spec PyProof.Rows L2
section
variable {X : Cx}
end
end L3
namespace L3
open PySem PySem.Spec PyProof.Rows L2
section
variable {X : Cx}
end
end L3
namespace L3
open PySem PySem.Spec PyProof.Rows L2
section
variable {X : Cx} {tg : Expr}
variable {g : TG} {tt : TT} {te : TE} {acc : Addr} {σ0 : L2.St} {H0 : Hp} {Q : Hp → Prop}
end
end L3
namespace HS
open PySem PySem.W PyProof.Rows
def Good (r : Nat → Nat) (n : Nat) {α : Type} : KasT α → (α → Prop) → Prop
  | .ret a, Q => Q a
  | .ask i j k, Q => i < n ∧ j < n ∧ Good r n (k (decide (r i < r j))) Q
section
variable {r : Nat → Nat} {n : Nat}
theorem Good.mono {α : Type} {Q Q' : α → Prop} (hq : ∀ a, Q a → Q' a) : ∀ {t : KasT α}, Good r n t Q → Good r n t Q'
  | .ret a, h => hq a h
  | .ask _ _ k, h => ⟨h.1, h.2.1, Good.mono hq (t := k _) h.2.2⟩
theorem Good.bind {α β : Type} {f : α → KasT β} {Q : β → Prop} : ∀ {t : KasT α}, Good r n t (fun a => Good r n (f a) Q) → Good r n (t.bind f) Q
  | .ret _, h => h
  | .ask _ _ k, h => ⟨h.1, h.2.1, Good.bind (t := k _) h.2.2⟩
theorem Good.no {α : Type} {Q : α → Prop} {t u : KasT α} {c : Prop} [Decidable c] (hc : ¬ c) (h : Good r n u Q) : Good r n (if decide c = true then t else u) Q := by
  rw [if_neg (by simpa using hc)]; exact h
def R (r : Nat → Nat) (p : Array Nat) (i : Nat) : Nat := r (p.getD i 0)
def Ar (n : Nat) (p : Array Nat) : Prop := p.toList.Perm (List.range n)
theorem Ar.size {p : Array Nat} (h : Ar n p) : p.size = n := by
  have := h.length_eq
  rw [List.length_range, Array.length_toList] at this
  exact this
theorem Ar.lt {p : Array Nat} (h : Ar n p) (h0 : 0 < n) (i : Nat) : p.getD i 0 < n := by
  rw [Array.getD_eq_getD_getElem?]
  by_cases hi : i < p.size
  · rw [getElem?_pos p i hi]
    have : p[i] ∈ p.toList := by simp
    exact List.mem_range.mp (h.mem_iff.mp this)
  · rw [getElem?_neg p i hi]; exact h0
theorem Ar.perm {p q : Array Nat} (h : Ar n p) (e : q.Perm p) : Ar n q := (Array.perm_iff_toList_perm.mp e).trans h
end
end HS
namespace HS
open PySem PySem.W PyProof.Rows
section
variable {prog : Program} {w : World} {A : Around} {E : Value → Shared → Prop} {s : Shared}
inductive F2 {α β : Type} (R : α → β → Prop) : List α → List β → Prop where
  | nil : F2 R [] []
  | cons {a : α} {b : β} {as : List α} {bs : List β} : R a b → F2 R as bs → F2 R (a :: as) (b :: bs)
theorem F2.length_eq {α β : Type} {R : α → β → Prop} {as : List α} {bs : List β} (h : F2 R as bs) : as.length = bs.length := by
  induction h with
  | nil => rfl
  | cons _ _ ih => rw [List.length_cons, List.length_cons, ih]
theorem F2.imp {α β : Type} {R S : α → β → Prop} (f : ∀ a b, R a b → S a b) {as : List α} {bs : List β} (h : F2 R as bs) : F2 S as bs := by
  induction h with
  | nil => exact .nil
  | cons r _ ih => exact .cons (f _ _ r) ih
def TupIs (h : Heap) (v : Value) (ns : List Int) : Prop := ∃ a its, v = .ref a ∧ IsTup h a its ∧ IntsAre its.toList ns
theorem TupIs.kept {h h' : Heap} {v : Value} {ns : List Int} (t : TupIs h v ns) (k : ∀ b o, h.get? b = some o → h'.get? b = some o) : TupIs h' v ns := by
  obtain ⟨a, its, rfl, ⟨o, q, c⟩, i⟩ := t
  exact ⟨a, its, rfl, ⟨o, k a o q, c⟩, i⟩
end
end HS
namespace L3
open PySem PySem.Spec PyProof.Rows L2
section
variable {X : Cx}
end
end L3
namespace HS
open PySem PySem.W PyProof.Rows
section
open PySem.SeqAt
open PySem.AutoSeq1 (wpAny_loadPart')
open PySem.MeetsSeq PySem.MeetsSeq2 PySem.MeetsSeq3
end
section
variable {prog : Program} {w : World} {A : Around} {E : Value → Shared → Prop} {s : Shared}
def LstIs (h : Heap) (v : Value) (ns : List Int) : Prop := ∃ a its, v = .ref a ∧ h.IsList a its ∧ IntsAre its.toList ns
theorem LstIs.kept {h h' : Heap} {v : Value} {ns : List Int} (t : LstIs h v ns) (k : ∀ b o, h.get? b = some o → h'.get? b = some o) : LstIs h' v ns := by
  obtain ⟨a, its, rfl, ⟨o, q, c⟩, i⟩ := t
  exact ⟨a, its, rfl, ⟨o, k a o q, c⟩, i⟩
end
end HS
namespace L3
open PySem PySem.Spec PyProof.Rows L2
section
variable {X : Cx}
end
end L3
namespace L3
inductive Tr where
  | nil
  | node (l : Tr) (k : Int) (r : Tr)
namespace Tr
def d : Tr → D
  | nil => .non
  | node l k r => .tup [l.d, .int k, r.d]
def ht : Tr → Nat
  | nil => 0
  | node l _ r => max l.ht r.ht + 1
def size : Tr → Nat
  | nil => 0
  | node l _ r => l.size + 1 + r.size
def keys : Tr → List Int
  | nil => []
  | node l k r => l.keys ++ [k] ++ r.keys
def ins (x : Int) : Tr → Tr
  | nil => node nil x nil
  | node l k r => if x < k then node (l.ins x) k r else node l k (r.ins x)
def ord : Tr → Option Int → Option Int → Prop
  | nil, _, _ => True
  | node l k r, lo, hi => (∀ a, lo = some a → a < k) ∧ (∀ b, hi = some b → k < b) ∧ l.ord lo (some k) ∧ r.ord (some k) hi
theorem ht_size : ∀ t : Tr, t.ht ≤ t.size
  | nil => Nat.le_refl _
  | node l k r => by have := ht_size l; have := ht_size r; simp only [ht, size]; omega
theorem keys_length : ∀ t : Tr, t.keys.length = t.size
  | nil => rfl
  | node l k r => by simp only [keys, size, List.length_append, List.length_singleton, keys_length l, keys_length r]
theorem dep_d : ∀ t : Tr, t.d.dep ≤ t.ht
  | nil => Nat.le_refl _
  | node l k r => by
    have := dep_d l
    have := dep_d r
    simp only [d, D.dep, deps, ht]
    omega
theorem ins_size (x : Int) : ∀ t : Tr, (t.ins x).size = t.size + 1
  | nil => rfl
  | node l k r => by
    unfold ins
    split
    · simp only [size, ins_size x l]; omega
    · simp only [size, ins_size x r]; omega
theorem mem_ins (x y : Int) : ∀ t : Tr, y ∈ (t.ins x).keys ↔ y = x ∨ y ∈ t.keys
  | nil => by simp [ins, keys]
  | node l k r => by
    unfold ins
    split
    · simp only [keys, List.mem_append, List.mem_singleton, mem_ins x y l]; grind
    · simp only [keys, List.mem_append, List.mem_singleton, mem_ins x y r]; grind
theorem ins_ord (x : Int) : ∀ (t : Tr) (lo hi : Option Int), t.ord lo hi → x ∉ t.keys → (∀ a, lo = some a → a < x) → (∀ b, hi = some b → x < b) → (t.ins x).ord lo hi
  | nil, lo, hi, _, _, h1, h2 => ⟨h1, h2, trivial, trivial⟩
  | node l k r, lo, hi, h, hx, h1, h2 => by
    obtain ⟨a1, a2, a3, a4⟩ := h
    simp only [keys, List.mem_append, List.mem_singleton, not_or] at hx
    unfold ins
    split
    · exact ⟨a1, a2, ins_ord x l lo (some k) a3 hx.1.1 h1 (fun b e => by cases e; assumption), a4⟩
    · refine ⟨a1, a2, a3, ins_ord x r (some k) hi a4 hx.2 (fun a e => ?_) h2⟩
      cases e
      have := hx.1.2
      omega
end Tr
def knot : D → Option (D × Int × D)
  | .tup [l, .int k, r] => some (l, k, r)
  | _ => none
theorem nodup_insert {xs : List Int} {x : Int} (i : Nat) (h : xs.Nodup) (hx : x ∉ xs) : (xs.take i ++ x :: xs.drop i).Nodup := by
  have hp : (xs.take i ++ x :: xs.drop i).Perm (x :: xs) := by
    have h1 : (xs.take i ++ x :: xs.drop i).Perm (x :: (xs.take i ++ xs.drop i)) := List.perm_middle
    rw [List.take_append_drop] at h1
    exact h1
  exact hp.nodup_iff.mpr (List.nodup_cons.mpr ⟨hx, h⟩)
theorem mem_insert {xs : List Int} {x y : Int} (i : Nat) : y ∈ xs.take i ++ x :: xs.drop i ↔ y = x ∨ y ∈ xs := by
  have hp : (xs.take i ++ x :: xs.drop i).Perm (x :: xs) := by
    have h1 : (xs.take i ++ x :: xs.drop i).Perm (x :: (xs.take i ++ xs.drop i)) := List.perm_middle
    rw [List.take_append_drop] at h1
    exact h1
  rw [hp.mem_iff, List.mem_cons]
theorem Tr.size_foldl : ∀ (xs : List Int) (t : Tr), (xs.foldl (fun t x => t.ins x) t).size = t.size + xs.length
  | [], t => by simp
  | x :: r, t => by rw [List.foldl_cons, Tr.size_foldl r, Tr.ins_size, List.length_cons]; omega
structure Ranks (n : Nat) (xs : List Int) : Prop where
  nd : xs.Nodup
  bd : ∀ x ∈ xs, 0 ≤ x ∧ x < n
  len : xs.length = n
structure Mids (lo hi : Int) (xs : List Int) : Prop where
  nd : xs.Nodup
  bd : ∀ x ∈ xs, lo ≤ x ∧ x < hi
  len : (xs.length : Int) = hi - lo
theorem Mids.ranks {n : Nat} {xs : List Int} (h : Mids 0 n xs) : Ranks n xs := ⟨h.nd, fun x hx => h.bd x hx, by have := h.len; omega⟩
end L3
namespace L3
def maxI : List Int → Int
  | [] => 0
  | [a] => a
  | a :: r => max a (maxI r)
theorem maxI_spec : ∀ (ns : List Int) (M : Int), M ∈ ns → (∀ a ∈ ns, a ≤ M) → M = maxI ns
  | [], M, h, _ => by simp at h
  | [a], M, h, _ => by simpa [maxI] using h
  | a :: b :: r, M, h, hm => by
    have ih := maxI_spec (b :: r)
    rw [maxI]
    · have hx : ∀ x ∈ b :: r, x ≤ maxI (b :: r) := fun x hx => by
        have key : ∀ (l : List Int), l ≠ [] → maxI l ∈ l ∧ ∀ x ∈ l, x ≤ maxI l := by
          intro l
          induction l with
          | nil => intro h; exact absurd rfl h
          | cons y t iht =>
            intro _
            cases t with
            | nil => simp [maxI]
            | cons z t =>
              obtain ⟨i1, i2⟩ := iht (by simp)
              rw [maxI]
              · constructor
                · rcases Int.le_total y (maxI (z :: t)) with h | h
                  · rw [Int.max_eq_right h]; exact List.mem_cons_of_mem _ i1
                  · rw [Int.max_eq_left h]; exact List.mem_cons_self
                · intro x hx
                  rcases List.mem_cons.mp hx with rfl | hx
                  · omega
                  · have := i2 x hx; omega
              · intro h; cases h
        exact (key (b :: r) (by simp)).2 x hx
      have hmem : maxI (b :: r) ∈ b :: r := by
        have key : ∀ (l : List Int), l ≠ [] → maxI l ∈ l := by
          intro l
          induction l with
          | nil => intro h; exact absurd rfl h
          | cons y t iht =>
            intro _
            cases t with
            | nil => simp [maxI]
            | cons z t =>
              have i1 := iht (by simp)
              rw [maxI]
              · rcases Int.le_total y (maxI (z :: t)) with h | h
                · rw [Int.max_eq_right h]; exact List.mem_cons_of_mem _ i1
                · rw [Int.max_eq_left h]; exact List.mem_cons_self
              · intro h; cases h
        exact key (b :: r) (by simp)
      have h1 := hm _ (List.mem_cons_of_mem a hmem)
      have h2 := hm a List.mem_cons_self
      rcases List.mem_cons.mp h with rfl | h
      · omega
      · have h3 := hx M h; omega
    · intro h; cases h
def ruleM (ks : List (Int × Int)) (room : Int) : Int × Int :=
  if ks = [] then (1, 1) else
    let lv := maxI (ks.map (·.1))
    let sz := 1 + ((ks.filter fun p => decide (p.1 = lv)).map (·.2)).sum
    if sz ≤ room then (lv, sz) else (lv + 1, 1)
namespace Tr
def key? : Tr → List Int
  | nil => []
  | node _ k _ => [k]
def mark (room : Int) : Tr → Int × Int
  | nil => (0, 0)
  | node l _ r => ruleM ((match l with | nil => [] | node .. => [l.mark room]) ++ (match r with | nil => [] | node .. => [r.mark room])) room
def mk1 (room : Int) (t : Tr) : List (Int × Int) := match t with
  | nil => []
  | node .. => [t.mark room]
theorem mark_node (room : Int) (l : Tr) (k : Int) (r : Tr) : (node l k r).mark room = ruleM (l.mk1 room ++ r.mk1 room) room := by
  cases l <;> cases r <;> rfl
def wk : Tr → List (Int × List Int)
  | nil => []
  | node l k r => l.wk ++ r.wk ++ [(k, l.key? ++ r.key?)]
def pt (room : Int) : Tr → List (Int × Int × Int)
  | nil => []
  | node l k r => l.pt room ++ r.pt room ++ [(k, (node l k r).mark room)]
def io (room : Int) : Tr → List (Int × Int × Int)
  | nil => []
  | node l k r => l.io room ++ [(k, (node l k r).mark room)] ++ r.io room
theorem io_keys (room : Int) : ∀ t : Tr, (t.io room).map (·.1) = t.keys
  | nil => rfl
  | node l k r => by simp [io, keys, io_keys room l, io_keys room r]
theorem io_pt (room : Int) : ∀ (t : Tr) (e : Int × Int × Int), e ∈ t.io room → e ∈ t.pt room
  | nil, e, h => h
  | node l k r, e, h => by
    simp only [io, pt, List.mem_append, List.mem_singleton] at h ⊢
    rcases h with (h | h) | h
    · exact .inl (.inl (io_pt room l e h))
    · exact .inr h
    · exact .inl (.inr (io_pt room r e h))
theorem pt_perm (room : Int) : ∀ t : Tr, ((t.pt room).map (·.1)).Perm t.keys
  | nil => .refl _
  | node l k r => by
    simp only [pt, keys, List.map_append, List.map_cons, List.map_nil]
    have h1 := pt_perm room l
    have h2 := pt_perm room r
    have h3 : ((l.pt room).map (·.1) ++ (r.pt room).map (·.1) ++ [k]).Perm (l.keys ++ r.keys ++ [k]) := (h1.append h2).append_right _
    refine h3.trans ?_
    rw [List.append_assoc, List.append_assoc]
    exact List.Perm.append_left _ List.perm_append_comm
theorem wk_length : ∀ t : Tr, t.wk.length = t.size
  | nil => rfl
  | node l k r => by simp only [wk, List.length_append, List.length_singleton, wk_length l, wk_length r, size]; omega
end Tr
abbrev Tab := List (Int × Int × Int)
def look (tb : Tab) (k : Int) : Option (Int × Int) := (tb.find? fun e => decide (e.1 = k)).map (·.2)
theorem look_mem : ∀ {tb : Tab} {k : Int} {m : Int × Int}, (tb.map (·.1)).Nodup → (k, m) ∈ tb → look tb k = some m
  | [], k, m, _, h => by simp at h
  | e :: r, k, m, hn, h => by
    obtain ⟨h1, h2⟩ := List.nodup_cons.mp (show (e.1 :: r.map (·.1)).Nodup from hn)
    unfold look
    rw [List.find?_cons]
    rcases List.mem_cons.mp h with e1 | h'
    · subst e1; simp
    · have hne : ¬ e.1 = k := fun z => h1 (by rw [z]; exact List.mem_map.mpr ⟨_, h', rfl⟩)
      simp only [hne, decide_false]
      exact look_mem h2 h'
def stepT (room : Int) (tb : Tab) (e : Int × List Int) : Tab := tb ++ [(e.1, ruleM (e.2.filterMap (look tb)) room)]
namespace Tr
theorem key_mark (room : Int) (t : Tr) (k : Int) (h : k ∈ t.key?) : (k, t.mark room) ∈ t.pt room := by
  cases t with
  | nil => simp [key?] at h
  | node l x r => simp [key?] at h; subst h; simp [pt]
theorem kids_look (room : Int) (t : Tr) {tb : Tab} (hn : (tb.map (·.1)).Nodup) (hs : ∀ e ∈ t.pt room, e ∈ tb) : t.key?.filterMap (look tb) = t.mk1 room := by
  cases t with
  | nil => rfl
  | node l x r =>
    have : look tb x = some ((node l x r).mark room) := look_mem hn (hs _ (key_mark room _ x (by simp [key?])))
    simp [key?, mk1, this]
theorem fold_wk (room : Int) : ∀ (t : Tr) (tb : Tab), ((tb ++ t.pt room).map (·.1)).Nodup → t.wk.foldl (stepT room) tb = tb ++ t.pt room
  | nil, tb, _ => by simp [wk, pt]
  | node l k r, tb, h => by
    rw [pt, ← List.append_assoc, ← List.append_assoc] at h
    have h3 : ((tb ++ l.pt room ++ r.pt room).map (·.1)).Nodup := by
      rw [List.map_append] at h
      exact (List.nodup_append.mp h).1
    have h2 : ((tb ++ l.pt room).map (·.1)).Nodup := by
      rw [List.map_append] at h3
      exact (List.nodup_append.mp h3).1
    rw [wk, List.foldl_append, List.foldl_append, fold_wk room l tb h2, fold_wk room r _ h3, List.foldl_cons, List.foldl_nil]
    unfold stepT
    rw [List.filterMap_append, kids_look room l h3 (fun e he => by simp [he]), kids_look room r h3 (fun e he => by simp [he]), ← mark_node room l k r, pt]
    simp [List.append_assoc]
theorem wk_keys (room : Int) : ∀ t : Tr, t.wk.map (·.1) = (t.pt room).map (·.1)
  | nil => rfl
  | node l k r => by simp [wk, pt, wk_keys room l, wk_keys room r]
theorem pt_nodup (room : Int) {t : Tr} (h : t.keys.Nodup) : ((t.pt room).map (·.1)).Nodup := (pt_perm room t).nodup_iff.mpr h
end Tr
theorem step_keys (room : Int) : ∀ (w : List (Int × List Int)) (tb : Tab), (w.foldl (stepT room) tb).map (·.1) = tb.map (·.1) ++ w.map (·.1)
  | [], tb => by simp
  | e :: r, tb => by rw [List.foldl_cons, step_keys room r]; simp [stepT]
def Ahead : List (Int × List Int) → List Int → Prop
  | [], _ => True
  | e :: r, seen => (∀ k ∈ e.2, k ∈ seen) ∧ Ahead r (seen ++ [e.1])
theorem ahead_append : ∀ (a b : List (Int × List Int)) (seen : List Int), Ahead (a ++ b) seen ↔ Ahead a seen ∧ Ahead b (seen ++ a.map (·.1))
  | [], b, seen => by simp [Ahead]
  | e :: r, b, seen => by
    rw [List.cons_append, Ahead, Ahead, ahead_append r b, List.map_cons]
    simp [List.append_assoc, and_assoc]
theorem ahead_mono : ∀ (a : List (Int × List Int)) (s s' : List Int), (∀ x ∈ s, x ∈ s') → Ahead a s → Ahead a s'
  | [], _, _, _, _ => trivial
  | e :: r, s, s', h, ⟨h1, h2⟩ => ⟨fun k hk => h k (h1 k hk), ahead_mono r _ _ (fun x hx => by
      rcases List.mem_append.mp hx with q | q
      · exact List.mem_append_left _ (h x q)
      · exact List.mem_append_right _ q) h2⟩
theorem Tr.wk_ahead : ∀ t : Tr, Ahead t.wk []
  | .nil => trivial
  | .node l k r => by
    rw [Tr.wk, ahead_append, ahead_append]
    refine ⟨⟨Tr.wk_ahead l, ahead_mono _ _ _ (by simp) (Tr.wk_ahead r)⟩, ?_, trivial⟩
    intro x hx
    have key : ∀ t : Tr, ∀ x ∈ t.key?, x ∈ t.wk.map (·.1) := by
      intro t x hx
      cases t with
      | nil => simp [Tr.key?] at hx
      | node l x r => simp [Tr.key?] at hx; subst hx; simp [Tr.wk]
    simp only [List.mem_append] at hx
    simp only [List.map_append, List.nil_append, List.mem_append]
    rcases hx with hx | hx
    · exact .inl (key l x hx)
    · exact .inr (key r x hx)
theorem ahead_at : ∀ (w : List (Int × List Int)) (seen : List Int) (i : Nat) (e : Int × List Int), Ahead w seen → w[i]? = some e → ∀ k ∈ e.2, k ∈ seen ++ (w.take i).map (·.1)
  | [], _, i, e, _, h => by simp at h
  | x :: r, seen, 0, e, ⟨h1, _⟩, h => by simp at h; subst h; intro k hk; simpa using h1 k hk
  | x :: r, seen, i + 1, e, ⟨_, h2⟩, h => by
    intro k hk
    have := ahead_at r (seen ++ [x.1]) i e h2 (by simpa using h) k hk
    simpa [List.append_assoc] using this
theorem Tr.wk_small : ∀ (t : Tr) (e : Int × List Int), e ∈ t.wk → e.2.length ≤ 2
  | .nil, e, h => by simp [Tr.wk] at h
  | .node l k r, e, h => by
    simp only [Tr.wk, List.mem_append, List.mem_singleton] at h
    rcases h with (h | h) | h
    · exact Tr.wk_small l e h
    · exact Tr.wk_small r e h
    · subst h
      have : ∀ t : Tr, t.key?.length ≤ 1 := fun t => by cases t <;> simp [Tr.key?]
      have h1 := this l
      have h2 := this r
      simp only [List.length_append]
      omega
def Tr.sub (t : Tr) : List Tr := match t with
  | .nil => []
  | .node .. => [t]
end L3
namespace L3
open PySem L2
def PenAt (H : Hp) (p : Addr) : Prop := ∃ m n, H p = some (.lst [.int m, .int n])
theorem PenAt.mono {H H' : Hp} {p : Addr} (h : PenAt H p) (s : Same H H') : PenAt H' p := by
  obtain ⟨m, n, e⟩ := h
  exact ⟨m, n, s _ _ e⟩
theorem PenAt.ne {H : Hp} {p l : Addr} (h : PenAt H p) (e : H l = none) : l ≠ p := by
  obtain ⟨m, n, q⟩ := h
  intro z
  rw [z, q] at e; cases e
theorem PenAt.free {H H' : Hp} {p l : Addr} (h : PenAt H' p) (s : Same (rm p H) H') (e : H' l = none) : H l = none := by
  obtain ⟨m, n, q⟩ := h
  exact rm_free s e q
theorem rep_node {H : Hp} {v : V} {l r : Tr} {k : Int} (h : Rep H v (Tr.node l k r).d) : ∃ a vl vr, v = .ref a ∧ H a = some (.tup [vl, .int k, vr]) ∧ Rep H vl l.d ∧ Rep H vr r.d := by
  cases h with
  | @tup a vs xs e rs =>
    cases rs with
    | cons h1 r1 =>
      cases r1 with
      | cons h2 r2 =>
        cases r2 with
        | cons h3 r3 =>
          cases r3
          cases h2
          exact ⟨a, _, _, rfl, e, h1, h3⟩
theorem rep_nil {H : Hp} {v : V} (h : Rep H v Tr.nil.d) : v = .non := by cases h; rfl
theorem rep_mk {H : Hp} {a : Addr} {vl vr : V} {k : Int} {l r : D} (e : H a = some (.tup [vl, .int k, vr])) (h1 : Rep H vl l) (h2 : Rep H vr r) : Rep H (.ref a) (.tup [l, .int k, r]) := .tup e (.cons h1 (.cons (.int k) (.cons h2 .nil)))
theorem rep_tup {H : Hp} {v : V} {xs : List D} (h : Rep H v (.tup xs)) : ∃ a vs, v = .ref a ∧ H a = some (.tup vs) ∧ Reps H vs xs := by
  cases h with
  | tup e r => exact ⟨_, _, rfl, e, r⟩
theorem pures_ints : ∀ ns : List Int, pures (ns.map D.int) = true
  | [] => rfl
  | n :: r => by rw [List.map_cons, pures, pures_ints r]; rfl
theorem deps_ints : ∀ ns : List Int, deps (ns.map D.int) = 0
  | [] => rfl
  | n :: r => by rw [List.map_cons, deps, deps_ints r]; rfl
theorem rep_ints {H : Hp} {a : Addr} {ns : List Int} (h : H a = some (.lst (ns.map V.int))) : Rep H (.ref a) (.lst (ns.map D.int)) := .lst h (Reps.ints ns)
theorem cut_hi (xs : List V) (k : Nat) : cutV xs none (some (k : Int)) = xs.take k := by
  unfold cutV
  rw [HT.sIx_none, HT.sIx_nat, List.drop_zero, Nat.sub_zero]
  rcases Nat.le_total k xs.length with h | h
  · rw [Nat.min_eq_left h]
  · rw [Nat.min_eq_right h, List.take_length, List.take_of_length_le h]
end L3
namespace L3
open PySem L2
inductive DT (H : Hp) : List (Key × V) → Tab → Prop where
  | nil : DT H [] []
  | cons {k lv sz : Int} {b : Addr} {kvs : List (Key × V)} {tb : Tab} : H b = some (.tup [.int lv, .int sz]) → DT H kvs tb → DT H ((Sum.inl k, .ref b) :: kvs) ((k, lv, sz) :: tb)
theorem DT.mono {H H' : Hp} {kvs : List (Key × V)} {tb : Tab} (h : DT H kvs tb) (s : Same H H') : DT H' kvs tb := by
  induction h with
  | nil => exact .nil
  | cons e _ ih => exact .cons (s _ _ e) ih
theorem DT.upd {H : Hp} {kvs : List (Key × V)} {tb : Tab} {d : Addr} {o o' : HO} (h : DT H kvs tb) (hd : H d = some o) (ho : ∀ vs, o ≠ .tup vs) : DT (L2.upd H d o') kvs tb := by
  induction h with
  | nil => exact .nil
  | cons e _ ih =>
    refine .cons ?_ ih
    rw [upd_ne (fun z => by rw [z, hd] at e; exact ho _ (Option.some.inj e))]
    exact e
theorem DT.length {H : Hp} {kvs : List (Key × V)} {tb : Tab} (h : DT H kvs tb) : kvs.length = tb.length := by
  induction h with
  | nil => rfl
  | cons _ _ ih => rw [List.length_cons, List.length_cons, ih]
theorem DT.append {H : Hp} {a b : List (Key × V)} {s t : Tab} (h : DT H a s) (h' : DT H b t) : DT H (a ++ b) (s ++ t) := by
  induction h with
  | nil => exact h'
  | cons e _ ih => exact .cons e ih
theorem DT.val {H : Hp} {kvs : List (Key × V)} {tb : Tab} (h : DT H kvs tb) {k : Int} {m : Int × Int} (e : look tb k = some m) : ∃ b, valV kvs (Sum.inl k : Key) = some (.ref b) ∧ H b = some (.tup [.int m.1, .int m.2]) := by
  induction h with
  | nil => simp [look] at e
  | @cons k' lv sz b kvs tb eb _ ih =>
    unfold look at e
    rw [List.find?_cons] at e
    by_cases hk : k' = k
    · subst hk
      simp at e
      subst e
      exact ⟨b, valV_pos rfl, eb⟩
    · simp only [hk, decide_false] at e
      obtain ⟨b', h1, h2⟩ := ih e
      exact ⟨b', by rw [valV_neg (by simpa using hk)]; exact h1, h2⟩
theorem DT.none {H : Hp} {kvs : List (Key × V)} {tb : Tab} (h : DT H kvs tb) {k : Int} (hk : k ∉ tb.map (·.1)) : valV kvs (Sum.inl k : Key) = Option.none := by
  induction h with
  | nil => rfl
  | @cons k' lv sz b kvs tb eb _ ih =>
    simp only [List.map_cons, List.mem_cons, not_or] at hk
    rw [valV_neg (by simpa using fun z => hk.1 z.symm)]
    exact ih hk.2
theorem DT.put {H : Hp} {kvs : List (Key × V)} {tb : Tab} (h : DT H kvs tb) {k lv sz : Int} {b : Addr} (hk : k ∉ tb.map (·.1)) (eb : H b = some (.tup [.int lv, .int sz])) : DT H (putK kvs (Sum.inl k : Key) (.ref b)) (tb ++ [(k, lv, sz)]) := by
  rw [putK_new _ (h.none hk)]
  exact h.append (.cons eb .nil)
def pairD (m : Int × Int) : D := .tup [.int m.1, .int m.2]
def rowD (e : Int × Int × Int) : D := .tup [.int e.1, .int e.2.1, .int e.2.2]
def kidD (e : Int × List Int) : D := .tup [.int e.1, .lst (e.2.map D.int)]
theorem rep_lst {H : Hp} {v : V} {xs : List D} (h : Rep H v (.lst xs)) : ∃ a vs, v = .ref a ∧ H a = some (.lst vs) ∧ Reps H vs xs := by
  cases h with
  | lst e r => exact ⟨_, _, rfl, e, r⟩
theorem rep_int {H : Hp} {v : V} {i : Int} (h : Rep H v (.int i)) : v = .int i := by cases h; rfl
theorem rep_pair {H : Hp} {v : V} {m : Int × Int} (h : Rep H v (pairD m)) : ∃ b, v = .ref b ∧ H b = some (.tup [.int m.1, .int m.2]) := by
  obtain ⟨a, vs, rfl, e, rs⟩ := rep_tup h
  cases rs with
  | cons h1 rs =>
    cases rs with
    | cons h2 rs =>
      cases rs
      cases rep_int h1
      cases rep_int h2
      exact ⟨a, rfl, e⟩
theorem pair_rep {H : Hp} {b : Addr} {m : Int × Int} (h : H b = some (.tup [.int m.1, .int m.2])) : Rep H (.ref b) (pairD m) := .tup h (.cons (.int _) (.cons (.int _) .nil))
theorem reps_ints : ∀ {H : Hp} {vs : List V} {ns : List Int}, Reps H vs (ns.map D.int) → vs = ns.map V.int
  | _, [], [], .nil => rfl
  | H, _, n :: r, h => by
    cases h with
    | cons h1 h2 => rw [rep_int h1, reps_ints h2]; rfl
theorem rep_kid {H : Hp} {v : V} {e : Int × List Int} (h : Rep H v (kidD e)) : ∃ b c, v = .ref b ∧ H b = some (.tup [.int e.1, .ref c]) ∧ H c = some (.lst (e.2.map V.int)) := by
  obtain ⟨a, vs, rfl, ea, rs⟩ := rep_tup h
  cases rs with
  | cons h1 rs =>
    cases rs with
    | cons h2 rs =>
      cases rs
      cases rep_int h1
      obtain ⟨c, ws, rfl, ec, rw'⟩ := rep_lst h2
      rw [reps_ints rw'] at ec
      exact ⟨a, c, rfl, ea, ec⟩
theorem reps_map {H : Hp} {α : Type} {f : α → D} : ∀ {vs : List V} {xs : List α} {i : Nat} {v : V}, Reps H vs (xs.map f) → vs[i]? = some v → ∃ x, xs[i]? = some x ∧ Rep H v (f x) := by
  intro vs xs i v h e
  obtain ⟨d, h1, h2⟩ := h.get e
  rw [List.getElem?_map] at h1
  obtain ⟨x, hx, rfl⟩ := Option.map_eq_some_iff.mp h1
  exact ⟨x, hx, h2⟩
mutual
/-- data without a dict stand apart from a dict -/
theorem Rep.apart {H : Hp} {d : Addr} {kvs : List (Key × V)} (hd : H d = some (.dK kvs)) {v : V} {e : D} : Rep H v e → e.pure = true → Rep (rm d H) v e
  | .non, _ => .non
  | .bl b, _ => .bl b
  | .int i, _ => .int i
  | .str x, _ => .str x
  | .tup (a := a) ea r, h => .tup (by rw [rm_ne (fun z => by rw [z, hd] at ea; cases ea)]; exact ea) (Reps.apart hd r (by rw [D.pure] at h; exact h))
  | .lst (a := a) ea r, h => .lst (by rw [rm_ne (fun z => by rw [z, hd] at ea; cases ea)]; exact ea) (Reps.apart hd r (by rw [D.pure] at h; exact h))
  | .emp _, h => by rw [D.pure] at h; cases h
theorem Reps.apart {H : Hp} {d : Addr} {kvs : List (Key × V)} (hd : H d = some (.dK kvs)) {vs : List V} {es : List D} : Reps H vs es → pures es = true → Reps (rm d H) vs es
  | .nil, _ => .nil
  | .cons h r, q => by
    rw [pures, Bool.and_eq_true] at q
    exact .cons (Rep.apart hd h q.1) (Reps.apart hd r q.2)
end
theorem pures_map {α : Type} {f : α → D} (hf : ∀ x, (f x).pure = true) : ∀ xs : List α, pures (xs.map f) = true
  | [] => rfl
  | x :: r => by rw [List.map_cons, pures, hf x, pures_map hf r]; rfl
theorem pure_kid (e : Int × List Int) : (kidD e).pure = true := by
  show (true && (pures (e.2.map D.int) && true)) = true
  rw [pures_ints]; rfl
end L3
namespace L3
open PySem L2
def Pen3 (H : Hp) (p : Addr) : Prop := ∃ m n c, H p = some (.lst [.int m, .int n, .int c])
theorem Pen3.mono {H H' : Hp} {p : Addr} (h : Pen3 H p) (s : Same H H') : Pen3 H' p := by
  obtain ⟨m, n, c, e⟩ := h
  exact ⟨m, n, c, s _ _ e⟩
theorem Pen3.ne {H : Hp} {p l : Addr} (h : Pen3 H p) (e : H l = none) : l ≠ p := by
  obtain ⟨m, n, c, q⟩ := h
  intro z
  rw [z, q] at e; cases e
theorem Pen3.free {H H' : Hp} {p l : Addr} (h : Pen3 H' p) (s : Same (rm p H) H') (e : H' l = none) : H l = none := by
  obtain ⟨m, n, c, q⟩ := h
  exact rm_free s e q
theorem Pen3.off {H : Hp} {p l : Addr} {o : HO} (h : Pen3 H p) (hl : p ≠ l) : Pen3 (upd H l o) p := by
  obtain ⟨m, n, c, q⟩ := h
  exact ⟨m, n, c, by rw [upd_ne hl]; exact q⟩
theorem ne_ints {H : Hp} {a b : Addr} {xs ys : List Int} {Q : VK} (ea : H a = some (.lst (xs.map V.int))) (eb : H b = some (.lst (ys.map V.int))) (h : Q (.bl (!decide (xs = ys))) H) : rNeG 150 (.ref a) (.ref b) H Q := by
  refine ⟨_, _, rep_ints ea, rep_ints eb, by rw [D.pure]; exact pures_ints xs, by rw [D.pure]; exact pures_ints ys, by rw [D.dep, deps_ints]; decide, ?_⟩
  by_cases he : xs = ys
  · subst he
    rw [D.eqv_refl]
    simpa using h
  · have hne : (D.lst (xs.map D.int)).eqv (.lst (ys.map D.int)) = false := eqv_ne (by rw [D.pure]; exact pures_ints xs) (by rw [D.pure]; exact pures_ints ys) (fun z => he (by
      injection z with z
      exact (List.map_inj_right (fun _ _ q => by injection q)).mp z))
    rw [hne]
    rw [decide_eq_false he] at h
    exact h
theorem ne_same {H : Hp} {a b : Addr} {e : D} {Q : VK} (ra : Rep H (.ref a) e) (rb : Rep H (.ref b) e) (hp : e.pure = true) (hd : e.dep ≤ 140) (h : Q (.bl false) H) : rNeG 150 (.ref a) (.ref b) H Q := by
  refine ⟨_, _, ra, rb, hp, hp, by omega, ?_⟩
  rw [D.eqv_refl]; exact h
theorem inV_ints (k : Int) : ∀ ws : List Int, inV (.int k) (ws.map V.int) = decide (k ∈ ws)
  | [] => by simp [inV]
  | w :: ws => by
    have ih := inV_ints k ws
    unfold inV at ih ⊢
    rw [List.map_cons, List.any_cons, ih]
    by_cases h : w = k
    · subst h; simp [eqV]
    · have h' : ¬ k = w := fun z => h z.symm
      simp [eqV, h, h']
theorem flat_ints : ∀ ws : List Int, (ws.map V.int).all flatV = true
  | [] => rfl
  | w :: ws => by rw [List.map_cons, List.all_cons, flat_ints ws]; rfl
def Pgs (H : Hp) : List Addr → List (List Int) → Prop
  | [], [] => True
  | b :: bs, p :: ps => H b = some (.lst (p.map V.int)) ∧ Pgs H bs ps
  | _, _ => False
theorem Pgs.stay {H H' : Hp} : ∀ {bs : List Addr} {ps : List (List Int)}, Pgs H bs ps → (∀ b ∈ bs, H' b = H b) → Pgs H' bs ps
  | [], [], _, _ => trivial
  | b :: bs, p :: ps, h, s => ⟨by rw [s b (by simp)]; exact h.1, h.2.stay (fun c hc => s c (by simp [hc]))⟩
  | [], _ :: _, h, _ => h.elim
  | _ :: _, [], h, _ => h.elim
theorem Pgs.mono {H H' : Hp} : ∀ {bs : List Addr} {ps : List (List Int)}, Pgs H bs ps → Same H H' → Pgs H' bs ps
  | [], [], _, _ => trivial
  | b :: bs, p :: ps, h, s => ⟨s _ _ h.1, h.2.mono s⟩
  | [], _ :: _, h, _ => h.elim
  | _ :: _, [], h, _ => h.elim
theorem Pgs.len {H : Hp} : ∀ {bs : List Addr} {ps : List (List Int)}, Pgs H bs ps → bs.length = ps.length
  | [], [], _ => rfl
  | b :: bs, p :: ps, h => by simp [h.2.len]
  | [], _ :: _, h => h.elim
  | _ :: _, [], h => h.elim
theorem Pgs.snoc {H : Hp} {b : Addr} {p : List Int} : ∀ {bs : List Addr} {ps : List (List Int)}, Pgs H bs ps → H b = some (.lst (p.map V.int)) → Pgs H (bs ++ [b]) (ps ++ [p])
  | [], [], _, e => ⟨e, trivial⟩
  | c :: bs, q :: ps, h, e => ⟨h.1, h.2.snoc e⟩
  | [], _ :: _, h, _ => h.elim
  | _ :: _, [], h, _ => h.elim
theorem Pgs.at {H : Hp} : ∀ {bs : List Addr} {ps : List (List Int)} {j : Nat} {b : Addr}, Pgs H bs ps → bs[j]? = some b → ∃ p, ps[j]? = some p ∧ H b = some (.lst (p.map V.int))
  | [], [], _, _, _, e => by simp at e
  | c :: bs, q :: ps, 0, b, h, e => by simp at e; subst e; exact ⟨q, rfl, h.1⟩
  | c :: bs, q :: ps, j + 1, b, h, e => by simpa using Pgs.at h.2 (j := j) (by simpa using e)
  | [], _ :: _, _, _, h, _ => h.elim
  | _ :: _, [], _, _, h, _ => h.elim
theorem Pgs.of {H : Hp} : ∀ {bs : List Addr} {ps : List (List Int)} {b : Addr}, Pgs H bs ps → b ∈ bs → ∃ p, p ∈ ps ∧ H b = some (.lst (p.map V.int))
  | [], [], _, _, e => by simp at e
  | c :: bs, q :: ps, b, h, e => by
    rcases List.mem_cons.mp e with rfl | e
    · exact ⟨q, by simp, h.1⟩
    · obtain ⟨p, h1, h2⟩ := Pgs.of h.2 e
      exact ⟨p, by simp [h1], h2⟩
  | [], _ :: _, _, h, _ => h.elim
  | _ :: _, [], _, h, _ => h.elim
end L3
namespace L3
open PySem L2
def way (k : Int) : Tr → List Int
  | .nil => []
  | .node l x r => if x = k then [k] else x :: (if k < x then way k l else way k r)
def at_ (k : Int) : Tr → Tr
  | .nil => .nil
  | .node l x r => if x = k then .node l x r else if k < x then at_ k l else at_ k r
theorem way_len (k : Int) : ∀ t : Tr, (way k t).length ≤ t.ht
  | .nil => Nat.le_refl _
  | .node l x r => by
    have h1 := way_len k l
    have h2 := way_len k r
    rw [way, Tr.ht]
    split
    · simp
    · rw [List.length_cons]
      split <;> omega
theorem ord_bd : ∀ (t : Tr) (lo hi : Option Int), t.ord lo hi → ∀ y ∈ t.keys, (∀ a, lo = some a → a < y) ∧ ∀ b, hi = some b → y < b
  | .nil, lo, hi, _, y, hy => by simp [Tr.keys] at hy
  | .node l x r, lo, hi, h, y, hy => by
    obtain ⟨h1, h2, h3, h4⟩ := h
    simp only [Tr.keys, List.mem_append, List.mem_singleton] at hy
    rcases hy with (hy | hy) | hy
    · obtain ⟨g1, g2⟩ := ord_bd l lo (some x) h3 y hy
      refine ⟨g1, fun b hb => ?_⟩
      have := g2 x rfl
      have := h2 b hb
      omega
    · subst hy; exact ⟨h1, h2⟩
    · obtain ⟨g1, g2⟩ := ord_bd r (some x) hi h4 y hy
      refine ⟨fun a ha => ?_, g2⟩
      have := g1 x rfl
      have := h1 a ha
      omega
theorem ord_l {l r : Tr} {x : Int} {lo hi : Option Int} (h : (Tr.node l x r).ord lo hi) {y : Int} (hy : y ∈ l.keys) : y < x := (ord_bd l lo (some x) h.2.2.1 y hy).2 x rfl
theorem ord_r {l r : Tr} {x : Int} {lo hi : Option Int} (h : (Tr.node l x r).ord lo hi) {y : Int} (hy : y ∈ r.keys) : x < y := (ord_bd r (some x) hi h.2.2.2 y hy).1 x rfl
theorem ord_rise : ∀ (t : Tr) (lo hi : Option Int), t.ord lo hi → t.keys.Pairwise (· < ·)
  | .nil, _, _, _ => by simp [Tr.keys]
  | .node l x r, lo, hi, h => by
    have g1 := ord_rise l _ _ h.2.2.1
    have g2 := ord_rise r _ _ h.2.2.2
    rw [Tr.keys, List.append_assoc, List.pairwise_append]
    refine ⟨g1, ?_, fun a ha b hb => ?_⟩
    · rw [List.singleton_append, List.pairwise_cons]
      exact ⟨fun b hb => ord_r h hb, g2⟩
    · have := ord_l h ha
      rw [List.singleton_append] at hb
      rcases List.mem_cons.mp hb with rfl | hb
      · exact this
      · have := ord_r h hb; omega
theorem way_sub (k : Int) : ∀ (t : Tr) (y : Int), y ∈ way k t → y ∈ t.keys
  | .nil, y, h => by simp [way] at h
  | .node l x r, y, h => by
    rw [way] at h
    rw [Tr.keys]
    split at h
    · rename_i hx
      simp at h
      subst h hx
      simp
    · rcases List.mem_cons.mp h with rfl | h
      · simp
      · split at h
        · have := way_sub k l y h; simp [this]
        · have := way_sub k r y h; simp [this]
theorem at_sub (k : Int) : ∀ (t : Tr) (y : Int), y ∈ (at_ k t).keys → y ∈ t.keys
  | .nil, y, h => h
  | .node l x r, y, h => by
    rw [at_] at h
    split at h
    · exact h
    · rw [Tr.keys]
      split at h
      · have := at_sub k l y h; simp [this]
      · have := at_sub k r y h; simp [this]
theorem at_ord (k : Int) : ∀ (t : Tr) (lo hi : Option Int), t.ord lo hi → ∃ lo' hi', (at_ k t).ord lo' hi'
  | .nil, lo, hi, h => ⟨lo, hi, h⟩
  | .node l x r, lo, hi, h => by
    rw [at_]
    split
    · exact ⟨lo, hi, h⟩
    · split
      · exact at_ord k l _ _ h.2.2.1
      · exact at_ord k r _ _ h.2.2.2
theorem at_node (k : Int) : ∀ (t : Tr) (lo hi : Option Int), t.ord lo hi → k ∈ t.keys → ∃ l r, at_ k t = .node l k r
  | .nil, _, _, _, h => by simp [Tr.keys] at h
  | .node l x r, lo, hi, h, hk => by
    rw [at_]
    split
    · rename_i hx; subst hx; exact ⟨l, r, rfl⟩
    · rename_i hx
      simp only [Tr.keys, List.mem_append, List.mem_singleton] at hk
      split
      · rename_i hlt
        refine at_node k l _ _ h.2.2.1 ?_
        rcases hk with (hk | hk) | hk
        · exact hk
        · exact absurd hk.symm hx
        · have := ord_r h hk; omega
      · rename_i hlt
        refine at_node k r _ _ h.2.2.2 ?_
        rcases hk with (hk | hk) | hk
        · have := ord_l h hk; omega
        · exact absurd hk.symm hx
        · exact hk
theorem on_way (k : Int) : ∀ (t : Tr) (lo hi : Option Int), t.ord lo hi → k ∈ t.keys → ∀ one ∈ t.keys, (k ∈ way one t ↔ one ∈ (at_ k t).keys)
  | .nil, _, _, _, h, _, _ => by simp [Tr.keys] at h
  | .node l x r, lo, hi, h, hk, one, ho => by
    rw [at_]
    by_cases hx : x = k
    · rw [if_pos hx]
      refine ⟨fun _ => ho, fun _ => ?_⟩
      rw [way]
      split
      · rename_i h1; simp [← h1, hx]
      · simp [hx]
    · rw [if_neg hx]
      simp only [Tr.keys, List.mem_append, List.mem_singleton] at hk ho
      have hkm : (k < x → k ∈ l.keys) ∧ (¬ k < x → k ∈ r.keys) := by
        constructor
        · intro hlt
          rcases hk with (hk | hk) | hk
          · exact hk
          · exact absurd hk.symm hx
          · have := ord_r h hk; omega
        · intro hlt
          rcases hk with (hk | hk) | hk
          · have := ord_l h hk; omega
          · exact absurd hk.symm hx
          · exact hk
      rw [way]
      by_cases h1 : x = one
      · rw [if_pos h1]
        subst h1
        constructor
        · intro z
          simp at z
          exact absurd z.symm hx
        · intro z
          split at z
          · have := ord_l h (at_sub k l _ z); omega
          · have := ord_r h (at_sub k r _ z); omega
      · rw [if_neg h1, List.mem_cons]
        by_cases hlt : k < x
        · rw [if_pos hlt]
          by_cases h2 : one < x
          · rw [if_pos h2]
            have hol : one ∈ l.keys := by
              rcases ho with (ho | ho) | ho
              · exact ho
              · exact absurd ho.symm h1
              · have := ord_r h ho; omega
            rw [← on_way k l _ _ h.2.2.1 (hkm.1 hlt) one hol]
            exact ⟨fun z => z.resolve_left (fun q => hx q.symm), .inr⟩
          · rw [if_neg h2]
            constructor
            · rintro (z | z)
              · exact absurd z.symm hx
              · have := ord_r h (way_sub one r _ z); omega
            · intro z
              have := ord_l h (at_sub k l _ z); omega
        · rw [if_neg hlt]
          by_cases h2 : one < x
          · rw [if_pos h2]
            constructor
            · rintro (z | z)
              · exact absurd z.symm hx
              · have := ord_l h (way_sub one l _ z); omega
            · intro z
              have := ord_r h (at_sub k r _ z); omega
          · rw [if_neg h2]
            have hor : one ∈ r.keys := by
              rcases ho with (ho | ho) | ho
              · have := ord_l h ho; omega
              · exact absurd ho.symm h1
              · exact ho
            rw [← on_way k r _ _ h.2.2.2 (hkm.2 hlt) one hor]
            exact ⟨fun z => z.resolve_left (fun q => hx q.symm), .inr⟩
theorem at_size (k : Int) : ∀ t : Tr, (at_ k t).size ≤ t.size ∧ (at_ k t).ht ≤ t.ht
  | .nil => ⟨Nat.le_refl _, Nat.le_refl _⟩
  | .node l x r => by
    have h1 := at_size k l
    have h2 := at_size k r
    rw [at_]
    split
    · exact ⟨Nat.le_refl _, Nat.le_refl _⟩
    · rw [Tr.size, Tr.ht]
      split <;> omega
theorem dep_pure : ∀ t : Tr, t.d.pure = true
  | .nil => rfl
  | .node l x r => by
    show (D.tup [l.d, .int x, r.d]).pure = true
    rw [D.pure, pures, dep_pure l, pures, pures, dep_pure r, pures]; rfl
end L3
namespace L3
open PySem L2
theorem join {G : Prop} {N : L2.St → Hp → Prop} (M : L2.St → Hp → Prop) (h2 : (∀ σ H, M σ H → N σ H) → G) (h1 : ∀ σ H, M σ H → N σ H) : G := h2 h1
end L3
namespace L3
open PySem L2
theorem Pgs.perm {H : Hp} {cs' cs : List Addr} (h : cs'.Perm cs) : ∀ {qs : List (List Int)}, Pgs H cs qs → ∃ qs' : List (List Int), Pgs H cs' qs' ∧ qs'.Perm qs := by
  induction h with
  | nil => intro qs h; cases qs with
    | nil => exact ⟨[], trivial, List.Perm.refl _⟩
    | cons q qs => exact h.elim
  | cons x _ ih =>
    intro qs h
    cases qs with
    | nil => exact h.elim
    | cons q qs =>
      obtain ⟨qs', g1, g2⟩ := ih h.2
      exact ⟨q :: qs', ⟨h.1, g1⟩, g2.cons q⟩
  | swap x y l =>
    intro qs h
    cases qs with
    | nil => exact h.elim
    | cons q qs =>
      cases qs with
      | nil => exact h.2.elim
      | cons q2 qs => exact ⟨q2 :: q :: qs, ⟨h.2.1, h.1, h.2.2⟩, List.Perm.swap q q2 qs⟩
  | trans _ _ ih1 ih2 =>
    intro qs h
    obtain ⟨q2, g1, g2⟩ := ih2 h
    obtain ⟨q1, g3, g4⟩ := ih1 g1
    exact ⟨q1, g3, g4.trans g2⟩
theorem Pgs.set {H : Hp} {y : Int} : ∀ {bs : List Addr} {ps : List (List Int)} {j : Nat} {b : Addr} {q : List Int}, Pgs H bs ps → bs.Nodup → bs[j]? = some b → ps[j]? = some q → Pgs (upd H b (.lst (q.map V.int ++ [.int y]))) bs (ps.set j (q ++ [y]))
  | [], [], _, _, _, _, _, e, _ => by simp at e
  | c :: bs, p :: ps, 0, b, q, h, hn, e, e2 => by
    simp at e e2
    subst e e2
    rw [List.nodup_cons] at hn
    refine ⟨by rw [upd_same, List.map_append]; rfl, h.2.stay fun d hd => upd_ne (fun z => hn.1 (z ▸ hd))⟩
  | c :: bs, p :: ps, j + 1, b, q, h, hn, e, e2 => by
    rw [List.nodup_cons] at hn
    have e' : bs[j]? = some b := by simpa using e
    have hcb : c ≠ b := fun z => hn.1 (z ▸ List.mem_of_getElem? e')
    exact ⟨by rw [upd_ne hcb]; exact h.1, Pgs.set h.2 hn.2 e' (by simpa using e2)⟩
  | [], _ :: _, _, _, _, h, _, _, _ => h.elim
  | _ :: _, [], _, _, _, h, _, _, _ => h.elim
end L3
namespace L3
open PySem L2
def numN (pss : List (List Int)) : Nat → Int → Option Nat
  | 0, _ => none
  | i + 1, y => if y ∈ pss.getD i [] then some i else numN pss i y
theorem numN_some (pss : List (List Int)) (y : Int) : ∀ i, i ≤ pss.length → ((numN pss i y).isSome = true ↔ y ∈ (pss.take i).flatten)
  | 0, _ => by simp [numN]
  | i + 1, h => by
    have hq : pss[i]? = some pss[i] := List.getElem?_eq_getElem (by omega)
    have ih := numN_some pss y i (by omega)
    rw [numN, List.getD_eq_getElem?_getD, hq, List.take_add_one, hq, List.flatten_append, List.mem_append]
    by_cases hy : y ∈ pss[i]
    · simp [hy]
    · simp only [Option.getD_some, hy, if_false, ih]
      simp [hy]
def numP (pss : List (List Int)) (y : Int) : Nat := (numN pss pss.length y).getD 0
theorem numN_in (pss : List (List Int)) (y : Int) : ∀ i n, numN pss i y = some n → n < i ∧ y ∈ pss.getD n []
  | 0, n, h => by simp [numN] at h
  | i + 1, n, h => by
    rw [numN] at h
    by_cases hy : y ∈ pss.getD i []
    · rw [if_pos hy] at h
      cases h
      exact ⟨by omega, hy⟩
    · rw [if_neg hy] at h
      have := numN_in pss y i n h
      exact ⟨by omega, this.2⟩
theorem numP_eq {pss : List (List Int)} {y : Int} (h : y ∈ pss.flatten) : numN pss pss.length y = some (numP pss y) := by
  have := (numN_some pss y pss.length (Nat.le_refl _)).mpr (by rw [List.take_length]; exact h)
  unfold numP
  cases e : numN pss pss.length y with
  | none => rw [e] at this; cases this
  | some n => rfl
theorem numP_lt {pss : List (List Int)} {y : Int} (h : y ∈ pss.flatten) : numP pss y < pss.length ∧ y ∈ pss.getD (numP pss y) [] := numN_in pss y _ _ (numP_eq h)
theorem numP_uniq : ∀ {pss : List (List Int)} {y : Int} {i j : Nat}, pss.flatten.Nodup → y ∈ pss.getD i [] → y ∈ pss.getD j [] → i = j
  | [], _, i, _, _, h, _ => by simp at h
  | q :: r, y, 0, 0, _, _, _ => rfl
  | q :: r, y, 0, j + 1, hn, h1, h2 => by
    exfalso
    rw [List.flatten_cons, List.nodup_append] at hn
    have h1 : y ∈ q := h1
    have h2 : y ∈ r.getD j [] := h2
    refine hn.2.2 y h1 y ?_ rfl
    rw [List.getD_eq_getElem?_getD] at h2
    cases e : r[j]? with
    | none => rw [e] at h2; simp at h2
    | some q' => rw [e] at h2; exact List.mem_flatten.mpr ⟨q', List.mem_of_getElem? e, h2⟩
  | q :: r, y, i + 1, 0, hn, h1, h2 => by
    exfalso
    rw [List.flatten_cons, List.nodup_append] at hn
    have h2 : y ∈ q := h2
    have h1 : y ∈ r.getD i [] := h1
    refine hn.2.2 y h2 y ?_ rfl
    rw [List.getD_eq_getElem?_getD] at h1
    cases e : r[i]? with
    | none => rw [e] at h1; simp at h1
    | some q' => rw [e] at h1; exact List.mem_flatten.mpr ⟨q', List.mem_of_getElem? e, h1⟩
  | q :: r, y, i + 1, j + 1, hn, h1, h2 => by
    rw [List.flatten_cons, List.nodup_append] at hn
    have := numP_uniq (pss := r) (i := i) (j := j) hn.2.1 h1 h2
    omega
theorem numP_is {pss : List (List Int)} {y : Int} {i : Nat} (hn : pss.flatten.Nodup) (h : y ∈ pss.getD i []) : numP pss y = i := by
  have hm : y ∈ pss.flatten := by
    rw [List.getD_eq_getElem?_getD] at h
    cases e : pss[i]? with
    | none => rw [e] at h; simp at h
    | some q' => rw [e] at h; exact List.mem_flatten.mpr ⟨q', List.mem_of_getElem? e, h⟩
  exact numP_uniq hn (numP_lt hm).2 h
def ddS (acc : List Int) (n : Int) : List Int := if n ∈ acc then acc else acc ++ [n]
def dd (ws : List Int) : List Int := ws.foldl ddS []
theorem dd_snoc (ws : List Int) (n : Int) : dd (ws ++ [n]) = ddS (dd ws) n := by unfold dd; rw [List.foldl_append]; rfl
theorem snocInd {α : Type} {P : List α → Prop} (h0 : P []) (h1 : ∀ ws m, P ws → P (ws ++ [m])) (ws : List α) : P ws := by
  have : ∀ r : List α, P r.reverse := fun r => by
    induction r with
    | nil => exact h0
    | cons a r ih => rw [List.reverse_cons]; exact h1 _ _ ih
  have := this ws.reverse
  rwa [List.reverse_reverse] at this
theorem dd_mem (n : Int) : ∀ ws : List Int, n ∈ dd ws ↔ n ∈ ws := by
  refine snocInd (by simp [dd]) fun ws m ih => ?_
  · rw [dd_snoc, List.mem_append, List.mem_singleton]
    unfold ddS
    split
    · rename_i h
      constructor
      · intro z; exact .inl (ih.mp z)
      · rintro (z | rfl)
        · exact ih.mpr z
        · exact h
    · rw [List.mem_append, List.mem_singleton, ih]
theorem way_take (k : Int) : ∀ (t : Tr) (lo hi : Option Int), t.ord lo hi → ∀ i y, (way k t)[i]? = some y → way y t = (way k t).take (i + 1)
  | .nil, _, _, _, i, y, h => by simp [way] at h
  | .node l x r, lo, hi, h, i, y, hy => by
    have ew : ∀ z, way z (Tr.node l x r) = if x = z then [z] else x :: (if z < x then way z l else way z r) := fun z => by rw [way]
    rw [ew k] at hy ⊢
    by_cases hx : x = k
    · rw [if_pos hx] at hy ⊢
      cases i with
      | zero => simp at hy; subst hy; rw [ew, if_pos hx]; rfl
      | succ i => simp at hy
    · rw [if_neg hx] at hy ⊢
      cases i with
      | zero =>
        simp at hy; subst hy
        rw [ew, if_pos rfl]; rfl
      | succ i =>
        rw [List.getElem?_cons_succ] at hy
        rw [List.take_succ_cons]
        by_cases hlt : k < x
        · rw [if_pos hlt] at hy ⊢
          have hyl : y ∈ l.keys := way_sub k l y (List.mem_of_getElem? hy)
          have hyx := ord_l h hyl
          rw [ew, if_neg (by omega), if_pos hyx, way_take k l _ _ h.2.2.1 i y hy]
        · rw [if_neg hlt] at hy ⊢
          have hyr : y ∈ r.keys := way_sub k r y (List.mem_of_getElem? hy)
          have hyx := ord_r h hyr
          rw [ew, if_neg (by omega), if_neg (by omega), way_take k r _ _ h.2.2.2 i y hy]
end L3
namespace K57
open PySem L2 L3
def top (i : Nat) : Stmt := PySem.Challenge.pw_leafpages_k57_whole_a_tree_grown.main.body.getD i (.Pass ⟨0, 0, 0, 0⟩)
abbrev s_keys_of : Stmt := top 8
theorem sc_keys_of : FnScope ["tree"] ["tree"] (defScope s_keys_of) := ⟨rfl, rfl, rfl, by decide +kernel, rfl, by decide +kernel, by decide +kernel⟩
abbrev s_with_kids : Stmt := top 9
theorem sc_with_kids : FnScope ["tree", "kids"] ["tree"] (defScope s_with_kids) := ⟨rfl, rfl, rfl, by decide +kernel, rfl, by decide +kernel, by decide +kernel⟩
abbrev s_side_towards : Stmt := top 10
theorem sc_side_towards : FnScope ["tree", "key"] ["tree", "key"] (defScope s_side_towards) := ⟨rfl, rfl, rfl, by decide +kernel, rfl, by decide +kernel, by decide +kernel⟩
abbrev s_knot_at : Stmt := top 11
theorem sc_knot_at : FnScope ["tree", "key"] ["tree", "key"] (defScope s_knot_at) := ⟨rfl, rfl, rfl, by decide +kernel, rfl, by decide +kernel, by decide +kernel⟩
abbrev s_way_to : Stmt := top 12
theorem sc_way_to : FnScope ["tree", "key", "way"] ["tree", "key"] (defScope s_way_to) := ⟨rfl, rfl, rfl, by decide +kernel, rfl, by decide +kernel, by decide +kernel⟩
abbrev s_height : Stmt := top 13
theorem sc_height : FnScope ["tree"] ["tree"] (defScope s_height) := ⟨rfl, rfl, rfl, by decide +kernel, rfl, by decide +kernel, by decide +kernel⟩
abbrev s_with_key : Stmt := top 14
theorem sc_with_key : FnScope ["tree", "key"] ["tree", "key"] (defScope s_with_key) := ⟨rfl, rfl, rfl, by decide +kernel, rfl, by decide +kernel, by decide +kernel⟩
abbrev s_put : Stmt := top 15
theorem sc_put : FnScope ["tree", "key"] ["tree", "key"] (defScope s_put) := ⟨rfl, rfl, rfl, by decide +kernel, rfl, by decide +kernel, by decide +kernel⟩
abbrev s_tree_of : Stmt := top 16
theorem sc_tree_of : FnScope ["keys", "tree", "key"] ["keys"] (defScope s_tree_of) := ⟨rfl, rfl, rfl, by decide +kernel, rfl, by decide +kernel, by decide +kernel⟩
abbrev s_without_key : Stmt := top 17
theorem sc_without_key : FnScope ["tree", "key", "heir"] ["tree", "key"] (defScope s_without_key) := ⟨rfl, rfl, rfl, by decide +kernel, rfl, by decide +kernel, by decide +kernel⟩
abbrev s_taken : Stmt := top 18
theorem sc_taken : FnScope ["tree", "key"] ["tree", "key"] (defScope s_taken) := ⟨rfl, rfl, rfl, by decide +kernel, rfl, by decide +kernel, by decide +kernel⟩
abbrev s_below : Stmt := top 19
theorem sc_below : FnScope ["tree", "key", "knot"] ["tree", "key"] (defScope s_below) := ⟨rfl, rfl, rfl, by decide +kernel, rfl, by decide +kernel, by decide +kernel⟩
abbrev s_number_of : Stmt := top 21
theorem sc_number_of : FnScope ["paper", "number"] ["paper"] (defScope s_number_of) := ⟨rfl, rfl, rfl, by decide +kernel, rfl, by decide +kernel, by decide +kernel⟩
abbrev s_stand_apart : Stmt := top 22
theorem sc_stand_apart : FnScope ["tree", "key", "others", "beneath", "other", "way"] ["tree", "key", "others"] (defScope s_stand_apart) := ⟨rfl, rfl, rfl, by decide +kernel, rfl, by decide +kernel, by decide +kernel⟩
abbrev s_number_held : Stmt := top 23
theorem sc_number_held : FnScope ["tree", "room", "paper", "papers", "numbers"] ["tree", "room", "paper"] (defScope s_number_held) := ⟨rfl, rfl, rfl, by decide +kernel, rfl, by decide +kernel, by decide +kernel⟩
abbrev s_holds : Stmt := top 24
theorem sc_holds : FnScope ["tree", "room", "paper"] ["tree", "room", "paper"] (defScope s_holds) := ⟨rfl, rfl, rfl, by decide +kernel, rfl, by decide +kernel, by decide +kernel⟩
abbrev s_gathered : Stmt := top 25
theorem sc_gathered : FnScope ["told", "kids", "papers", "kid"] ["told", "kids"] (defScope s_gathered) := ⟨rfl, rfl, rfl, by decide +kernel, rfl, by decide +kernel, by decide +kernel⟩
abbrev s_knot_papers : Stmt := top 26
theorem sc_knot_papers : FnScope ["tree", "told", "key", "kids"] ["tree"] (defScope s_knot_papers) := ⟨rfl, rfl, rfl, by decide +kernel, rfl, by decide +kernel, by decide +kernel⟩
abbrev s_part_made : Stmt := top 27
theorem sc_part_made : FnScope ["key", "room", "papers"] ["key", "room", "papers"] (defScope s_part_made) := ⟨rfl, rfl, rfl, by decide +kernel, rfl, by decide +kernel, by decide +kernel⟩
abbrev s_part_papers : Stmt := top 28
theorem sc_part_papers : FnScope ["tree", "room", "papers", "told", "key", "kids"] ["tree", "room", "papers"] (defScope s_part_papers) := ⟨rfl, rfl, rfl, by decide +kernel, rfl, by decide +kernel, by decide +kernel⟩
abbrev s_from_below : Stmt := top 29
theorem sc_from_below : FnScope ["tree", "room", "top", "papers", "greater"] ["tree", "room"] (defScope s_from_below) := ⟨rfl, rfl, rfl, by decide +kernel, rfl, by decide +kernel, by decide +kernel⟩
abbrev s_mark_from : Stmt := top 31
theorem sc_mark_from : FnScope ["kid_marks", "room", "level", "size"] ["kid_marks", "room"] (defScope s_mark_from) := ⟨rfl, rfl, rfl, by decide +kernel, rfl, by decide +kernel, by decide +kernel⟩
abbrev s_marks_by_key : Stmt := top 32
theorem sc_marks_by_key : FnScope ["tree", "room", "told", "key", "kids"] ["tree", "room"] (defScope s_marks_by_key) := ⟨rfl, rfl, rfl, by decide +kernel, rfl, by decide +kernel, by decide +kernel⟩
abbrev s_marks : Stmt := top 33
theorem sc_marks : FnScope ["tree", "room", "told"] ["tree", "room"] (defScope s_marks) := ⟨rfl, rfl, rfl, by decide +kernel, rfl, by decide +kernel, by decide +kernel⟩
abbrev s_law_pen : Stmt := top 35
theorem sc_law_pen : FnScope ["_law_script", "_law_k", "_law_cell"] ["_law_script", "_law_k"] (defScope s_law_pen) := ⟨rfl, rfl, rfl, by decide +kernel, rfl, by decide +kernel, by decide +kernel⟩
abbrev s_law_draw : Stmt := top 36
theorem sc_law_draw : FnScope ["_law_pen_here", "_law_many", "_law_found", "_law_mixed"] ["_law_pen_here", "_law_many"] (defScope s_law_draw) := ⟨rfl, rfl, rfl, by decide +kernel, rfl, by decide +kernel, by decide +kernel⟩
abbrev s_law_number : Stmt := top 37
theorem sc_law_number : FnScope ["_law_tree", "_law_room", "_law_number_here", "_law_level"] ["_law_tree", "_law_room"] (defScope s_law_number) := ⟨rfl, rfl, rfl, by decide +kernel, rfl, by decide +kernel, by decide +kernel⟩
abbrev s_law_grown : Stmt := top 38
theorem sc_law_grown : FnScope ["_law_tree", "_law_key", "_law_room", "_law_more"] ["_law_tree", "_law_key", "_law_room"] (defScope s_law_grown) := ⟨rfl, rfl, rfl, by decide +kernel, rfl, by decide +kernel, by decide +kernel⟩
abbrev s_law_shrunk : Stmt := top 39
theorem sc_law_shrunk : FnScope ["_law_tree", "_law_key", "_law_room", "_law_less"] ["_law_tree", "_law_key", "_law_room"] (defScope s_law_shrunk) := ⟨rfl, rfl, rfl, by decide +kernel, rfl, by decide +kernel, by decide +kernel⟩
abbrev s_law : Stmt := top 40
theorem sc_law : FnScope ["_law_script", "_law_pen_here", "_law_room", "_law_order", "_law_k", "_law_tree", "_law_taken_yet", "_law_keys"] ["_law_script"] (defScope s_law) := ⟨rfl, rfl, rfl, by decide +kernel, rfl, by decide +kernel, by decide +kernel⟩
structure Tx (K : PySem.W.Frag) (mg : Str → Option Value) : Prop where
  b_int : mg "int" = none
  b_len : mg "len" = none
  b_max : mg "max" = none
  b_range : mg "range" = none
  b_set : mg "set" = none
  b_sorted : mg "sorted" = none
  b_sum : mg "sum" = none
  b_tuple : mg "tuple" = none
  g_MOST_KEYS : ∃ tk, mg "MOST_KEYS" = some (.int 60 tk)
def spPen (K : PySem.W.Frag) : Sp := fun vs H Q _ => ∃ (a : Addr) (k : Int) (ns : List Int), vs = [.ref a, .int k] ∧ SqL K H a (ns.map V.int) ∧ ns.length ≤ 63 ∧ 0 ≤ k ∧ k ≤ 63 ∧ ∀ p H', H p = none → Same H H' → PenAt H' p → Q (.ref p) H'
def spDraw : Sp := fun vs H Q _ => ∃ (p : Addr) (c : Int), vs = [.ref p, .int c] ∧ PenAt H p ∧ 0 < c ∧ c < 10 ^ 100 ∧ ∀ r H', 0 ≤ r → r < c → PenAt H' p → Same (rm p H) H' → Q (.int r) H'
section
variable {P : Program} {w : World} {K : PySem.W.Frag} {mg : Str → Option Value} {base : Heap}
theorem ok_draw {f : Addr} (F : Fd K mg "_law_draw" s_law_draw f) (T : Tx K mg) : Cal P w K mg base CX0 1 "_law_draw" spDraw := by
  refine F.cal sc_law_draw (fun _ _ _ _ _ _ us hl => match us, hl with | [_, _], _ => rfl) (fun vs H Q E h => ?_) (fun cdv A outer s H vs Q E hr h => ?_)
  · obtain ⟨p, c, rfl, _⟩ := h; rfl
  · obtain ⟨p, c, rfl, ⟨m, n, hp⟩, hc, hc2, k⟩ := h
    have hcB : CDivB m c := ⟨hc, Int.lt_trans hc2 (by decide +kernel)⟩
    refine ⟨_, (bcons (sif (tcmp (rEqq hr) (qix (xIx K) (qv 0) qint (fun _ _ => rfl)) qint (nomark _)) (bcons (sset (i := 2) sc_law_draw.nd rfl (by first | exact Or.inl rfl | exact Or.inr rfl) (qop rMod (qix (xIx K) (qv 0) qint (fun _ _ => rfl)) (qv 1)))
        (bcons (sasg (qop rDivB (qix (xIx K) (qv 0) qint (fun _ _ => rfl)) (qv 1)) (gsub (qv 0) qint xSet))
        (bone (sret (qv 2))))) bnil)
      (bcons (sasg (qop rMod (qop rAdd (qop rMul (qix (xIx K) (qv 0) qint (fun _ _ => rfl)) qint) qint) qint) (gsub (qv 0) qint xSet))
      (bcons (sset (i := 3) sc_law_draw.nd rfl (by first | exact Or.inl rfl | exact Or.inr rfl) (qop rMod (qop rMul (qop rAdd (qop rAdd (qop rMul (qop rMod (qix (xIx K) (qv 0) qint (fun _ _ => rfl)) qint) qint) (qop rDivB (qix (xIx K) (qv 0) qint (fun _ _ => rfl)) qint)) qint) qint) qint))
      (bone (sret (qop rMod (qop rDivB (qv 3) qint) (qv 1))))))), ?_⟩
    refine ⟨_, rfl, p, _, 1, _, rfl, rfl, .inl (SqL.of hp), atI_nat (j := 1) rfl, _, rfl, ?_⟩
    refine ite2 (fun _ => ?_) (fun _ => ?_)
    · refine ⟨_, rfl, p, _, 0, _, rfl, rfl, .inl (SqL.of hp), atI_nat (j := 0) rfl, _, rfl, _, _, rfl, rfl, hc, ?_⟩
      refine ⟨_, rfl, p, _, 0, _, rfl, rfl, .inl (SqL.of hp), atI_nat (j := 0) rfl, _, rfl, _, _, rfl, rfl, hcB, _, rfl, p, _, 0, 0, rfl, rfl, hp, rfl, ?_⟩
      refine ⟨_, rfl, ?_⟩
      exact k (m % c) _ (Int.emod_nonneg _ (by omega)) (Int.emod_lt_of_pos _ hc) ⟨_, _, upd_same⟩ (same_upd rm_same rm_self)
    · refine ⟨_, rfl, p, _, 0, _, rfl, rfl, .inl (SqL.of hp), atI_nat (j := 0) rfl, _, _, rfl, rfl, cmR (by decide), _, _, rfl, rfl, (show (0 : Int) < 2147483629 by decide), _, rfl, p, _, 0, 0, rfl, rfl, hp, rfl, ?_⟩
      refine ⟨_, rfl, p, _, 0, _, rfl, rfl, .inl (SqL.of upd_same), atI_nat (j := 0) rfl, _, _, rfl, rfl, (show (0 : Int) < 65521 by decide), _, _, rfl, rfl, cmR (by decide), ?_⟩
      refine ⟨_, rfl, p, _, 0, _, rfl, rfl, .inl (SqL.of upd_same), atI_nat (j := 0) rfl, _, _, rfl, rfl, ⟨by decide, by decide⟩, _, _, rfl, rfl, cmR (by decide), _, _, rfl, rfl, (show (0 : Int) < 2147483647 by decide), ?_⟩
      refine ⟨_, rfl, _, _, rfl, rfl, ⟨by decide, by decide⟩, _, rfl, _, _, rfl, rfl, hc, ?_⟩
      exact k _ _ (Int.emod_nonneg _ (by omega)) (Int.emod_lt_of_pos _ hc) ⟨_, _, upd_same⟩ (same_upd rm_same rm_self)
theorem ok_pen {f : Addr} (F : Fd K mg "_law_pen" s_law_pen f) (T : Tx K mg) : Cal P w K mg base CX0 1 "_law_pen" (spPen K) := by
  refine F.cal sc_law_pen (fun _ _ _ _ _ _ us hl => match us, hl with | [_, _], _ => rfl) (fun vs H Q E h => ?_) (fun cdv A outer s H vs Q E hr h => ?_)
  · obtain ⟨a, k, ns, rfl, _⟩ := h; rfl
  · obtain ⟨a, k, ns, rfl, ha, hl, h0, h1, q⟩ := h
    refine split 2 (fun σ' H' => H' = H ∧ ∃ cell, σ' = [some (.ref a), some (.int k), some (.int cell)]) ?h2 ?h1
    case h2 =>
      refine ⟨_, (bcons (sif (tcmp rGe (qv 2) (qop rPow qint qint) (nomark _)) (bone (sret (qlst (qcons (qv 2) (qcons qint qnil))))) bnil)
      (bone (sret (qlst (qcons (qop rAdd (qop rMul (qop rAdd (qop rMod (qv 2) qint) qint) qint) (qop rMul qint (qv 1))) (qcons qint qnil)))))), ?_⟩
      rintro σ' H' ⟨rfl, cell, rfl⟩
      refine ⟨_, rfl, _, _, rfl, rfl, ⟨by decide, by decide, by decide⟩, _, _, rfl, rfl, _, rfl, ?_⟩
      refine ite2 (fun _ => ?_) (fun _ => ?_)
      · exact ⟨_, rfl, (show 2 ≤ sizeLine by decide), fun p H' hn s1 e1 _ => q p H' hn s1 ⟨_, _, e1⟩⟩
      · exact ⟨_, rfl, _, _, rfl, rfl, (show (0 : Int) < 2147483647 by decide), _, _, rfl, rfl, cmR (by decide), _, rfl, _, _, rfl, rfl, cmL (by decide), (show 2 ≤ sizeLine by decide), fun p H' hn s1 e1 _ => q p H' hn s1 ⟨_, _, e1⟩⟩
    case h1 =>
      intro u pu hu
      refine ⟨_, (bcons (sset (i := 2) sc_law_pen.nd rfl (by first | exact Or.inl rfl | exact Or.inr rfl) (qop rAdd (qop rAdd (qop rMul (qop rMul qint (qv 1)) (qv 1)) (qop rMul qint (qv 1))) qint))
      (bcons (sif (tcmp rLt (qv 1) (qB (fLen K) rfl T.b_len bt_len (qcons (qv 0) qnil)) (nomark _)) (bone (sset (i := 2) sc_law_pen.nd rfl (by first | exact Or.inl rfl | exact Or.inr rfl) (qix (xIx K) (qv 0) (qv 1) (fun _ _ => rfl)))) (bone (sif (tcmp rGt (qB (fLen K) rfl T.b_len bt_len (qcons (qv 0) qnil)) qint (nomark _)) (bcons (sset (i := 2) sc_law_pen.nd rfl (by first | exact Or.inl rfl | exact Or.inr rfl) (qop rMod (qix (xIx K) (qv 0) (qop rMod (qv 1) (qB (fLen K) rfl T.b_len bt_len (qcons (qv 0) qnil))) (fun _ _ => rfl)) qint))
          (bone (sset (i := 2) sc_law_pen.nd rfl (by first | exact Or.inl rfl | exact Or.inr rfl) (qop rAdd (qop rMul (qv 2) (qop rAdd qint (qop rDivB (qv 1) (qB (fLen K) rfl T.b_len bt_len (qcons (qv 0) qnil))))) (qop rMul qint (qv 1)))))) bnil)))
      pu)), ?_⟩
      refine ⟨_, rfl, _, _, rfl, rfl, cmL (by decide), _, rfl, _, _, rfl, rfl, cmR ⟨by omega, by omega⟩, _, rfl, _, _, rfl, rfl, cmL (by decide), ?_⟩
      have hln : (ns.map V.int).length = ns.length := List.length_map _
      refine ⟨_, rfl, _, rfl, a, _, rfl, .inl ha, _, _, rfl, rfl, _, rfl, ?_⟩
      refine ite2 (fun hk => ?_) (fun _ => ?_)
      · have hk : k < (((ns.map V.int).length : Nat) : Int) := of_decide_eq_true hk
        obtain ⟨x, hx, _⟩ := atI_ints (ns := ns) (i := k) h0 (by rw [← hln]; exact hk)
        exact ⟨_, rfl, _, rfl, a, _, _, .int x, rfl, rfl, .inl ha, hx, hu _ _ ⟨rfl, _, rfl⟩⟩
      · refine ⟨_, rfl, a, _, rfl, .inl ha, _, _, rfl, rfl, _, rfl, ?_⟩
        refine ite2 (fun hpos => ?_) (fun _ => hu _ _ ⟨rfl, _, rfl⟩)
        have hpos : 0 < (((ns.map V.int).length : Nat) : Int) := of_decide_eq_true hpos
        obtain ⟨x, hx, _⟩ := atI_ints (ns := ns) (i := k % ((ns.map V.int).length : Int)) (Int.emod_nonneg _ (by omega)) (by rw [← hln]; exact Int.emod_lt_of_pos _ hpos)
        refine ⟨_, rfl, _, rfl, _, rfl, a, _, rfl, .inl ha, _, _, rfl, rfl, hpos, a, _, _, .int x, rfl, rfl, .inl ha, hx, _, _, rfl, rfl, (show (0 : Int) < 2147483629 by decide), ?_⟩
        have hb1 : 0 ≤ x % 2147483629 := Int.emod_nonneg _ (by decide)
        have hb2 : x % 2147483629 < 2147483629 := Int.emod_lt_of_pos _ (by decide)
        refine ⟨_, rfl, _, rfl, _, rfl, a, _, rfl, .inl ha, _, _, rfl, rfl, ⟨hpos, by rw [hln]; exact Int.lt_of_le_of_lt (show (ns.length : Int) ≤ 63 by omega) (by decide +kernel)⟩, _, _, rfl, rfl, cmL ⟨by omega, by omega⟩, _, rfl, _, _, rfl, rfl, cmL (by decide), ?_⟩
        exact hu _ _ ⟨rfl, _, rfl⟩
end
end K57
namespace K57
open PySem L2 L3
def spKof (n : Nat) : Sp := fun vs H Q _ => ∃ (v : V) (t : Tr), vs = [v] ∧ Rep H v (Tr.d t) ∧ t.ht < n ∧ t.size ≤ 1000 ∧ ∀ r H', H r = none → Same H H' → H' r = some (.lst (t.keys.map V.int)) → Q (.ref r) H'
def spWk (n : Nat) : Sp := fun vs H Q _ => ∃ (v : V) (t : Tr), vs = [v] ∧ Rep H v (Tr.d t) ∧ t.ht < n ∧ t.size ≤ 1000 ∧ ∀ r H' ws, Same H H' → H' r = some (.lst ws) → Reps H' ws (t.wk.map kidD) → Q (.ref r) H'
def spFrom : Sp := fun vs H Q _ => ∃ (a : Addr) (ws : List V) (ks : List (Int × Int)) (room : Int), vs = [.ref a, .int room] ∧ H a = some (.lst ws) ∧ Reps H ws (ks.map pairD) ∧ ks.length ≤ 1000 ∧
  ∀ b H', Same H H' → H' b = some (.tup [.int (ruleM ks room).1, .int (ruleM ks room).2]) → Q (.ref b) H'
def spByKey : Sp := fun vs H Q _ => ∃ (v : V) (t : Tr) (room : Int), vs = [v, .int room] ∧ Rep H v (Tr.d t) ∧ t.ht < 80 ∧ t.size ≤ 1000 ∧ t.keys.Nodup ∧ ∀ r H' kvs, H r = none → Same H H' → H' r = some (.dK kvs) → DT H' kvs (t.pt room) → Q (.ref r) H'
def spMarks : Sp := fun vs H Q _ => ∃ (v : V) (t : Tr) (room : Int), vs = [v, .int room] ∧ Rep H v (Tr.d t) ∧ t.ht < 80 ∧ t.size ≤ 1000 ∧ t.keys.Nodup ∧ ∀ r H' ws, H r = none → Same H H' → H' r = some (.lst ws) → Reps H' ws ((t.io room).map rowD) → Q (.ref r) H'
section
variable {P : Program} {w : World} {K : PySem.W.Frag} {mg : Str → Option Value} {base : Heap}
theorem ok_kof {f : Addr} (F : Fd K mg "keys_of" s_keys_of f) (T : Tx K mg) : ∀ n, Cal P w K mg base CX0 n "keys_of" (spKof n) := by
  intro n
  induction n with
  | zero => exact (F.none (ps := ["tree"]) (fun _ _ _ _ _ _ us hl => match us, hl with | [_], _ => rfl) fun vs H Q E ⟨v, t, _, _, h2, _⟩ => by omega)
  | succ n C_keys_of =>
    refine F.cal sc_keys_of (fun _ _ _ _ _ _ us hl => match us, hl with | [_], _ => rfl) (fun vs H Q E h => ?_) (fun cdv A outer s H vs Q E hr h => ?_)
    · obtain ⟨v, t, rfl, _⟩ := h; rfl
    · obtain ⟨v, t, rfl, hv, ht, hz, q⟩ := h
      refine ⟨_, (bcons (sif (tcmp rIs (qv 0) qnon (nomark _)) (bone (sret (qlst qnil))) bnil)
      (bone (sret (qop rAdd (qop rAdd (qF C_keys_of (hr.mono (by omega)) pass0 rfl (qcons (qix (xIx K) (qv 0) qint (fun _ _ => rfl)) qnil)) (qlst (qcons (qix (xIx K) (qv 0) qint (fun _ _ => rfl)) qnil))) (qF C_keys_of (hr.mono (by omega)) pass0 rfl (qcons (qix (xIx K) (qv 0) qint (fun _ _ => rfl)) qnil)))))), ?_⟩
      cases t with
      | nil =>
        cases rep_nil hv
        exact ⟨_, rfl, rfl, _, rfl, (show 0 ≤ sizeLine by decide), fun r H1 n1 s1 e1 _ => q r H1 n1 s1 e1⟩
      | node l x r =>
        obtain ⟨a, vl, vr, rfl, ea, hl, hr'⟩ := rep_node hv
        simp only [Tr.ht] at ht
        simp only [Tr.size] at hz
        refine ⟨_, rfl, rfl, _, rfl, ?_⟩
        refine ⟨_, rfl, a, _, 0, _, rfl, rfl, .inr (SqT.of ea), atI_nat (j := 0) rfl, vl, l, rfl, hl, by omega, by omega, fun r1 H1 n1 s1 e1 => ?_⟩
        refine ⟨_, rfl, a, _, 1, _, rfl, rfl, .inr (SqT.of (s1 _ _ ea)), atI_nat (j := 1) rfl, (show 1 ≤ sizeLine by decide), fun r2 H2 n2 s2 e2 _ => ?_⟩
        have kl := Tr.keys_length l
        have kr := Tr.keys_length r
        refine ⟨_, _, s2 _ _ e1, e2, sizeBig' (by simp; omega), fun r3 H3 n3 s3 e3 _ => ?_⟩
        have s13 := (s1.trans s2).trans s3
        refine ⟨_, rfl, a, _, 2, _, rfl, rfl, .inr (SqT.of (s13 _ _ ea)), atI_nat (j := 2) rfl, vr, r, rfl, hr'.mono s13, by omega, by omega, fun r4 H4 n4 s4 e4 => ?_⟩
        refine ⟨_, _, s4 _ _ e3, e4, sizeBig' (by simp; omega), fun r5 H5 n5 s5 e5 _ => ?_⟩
        refine q r5 H5 ((s13.trans s4).free n5) ((s13.trans s4).trans s5) ?_
        rw [e5]; simp [Tr.keys]
theorem side_step {H : Hp} {v : V} {t : Tr} (h : Rep H v t.d) : (v = .non ∧ t.key? = []) ∨ ∃ a vl vr k, v = .ref a ∧ H a = some (.tup [vl, .int k, vr]) ∧ t.key? = [k] := by
  cases t with
  | nil => exact .inl ⟨rep_nil h, rfl⟩
  | node l k r => obtain ⟨a, vl, vr, rfl, e, _⟩ := rep_node h; exact .inr ⟨a, vl, vr, k, rfl, e, rfl⟩
theorem key_short (t : Tr) : t.key?.length ≤ 1 := by cases t <;> simp [Tr.key?]
theorem ok_wk {f : Addr} (F : Fd K mg "with_kids" s_with_kids f) (T : Tx K mg) : ∀ n, Cal P w K mg base CX0 n "with_kids" (spWk n) := by
  intro n
  induction n with
  | zero => exact (F.none (ps := ["tree"]) (fun _ _ _ _ _ _ us hl => match us, hl with | [_], _ => rfl) fun vs H Q E ⟨v, t, _, _, h2, _⟩ => by omega)
  | succ n C_with_kids =>
    refine F.cal sc_with_kids (fun _ _ _ _ _ _ us hl => match us, hl with | [_], _ => rfl) (fun vs H Q E h => ?_) (fun cdv A outer s H vs Q E hr h => ?_)
    · obtain ⟨v, t, rfl, _⟩ := h; rfl
    · obtain ⟨v, t, rfl, hv, ht, hz, q⟩ := h
      refine ⟨_, (bcons (sif (tcmp rIs (qv 0) qnon (nomark _)) (bone (sret (qlst qnil))) bnil)
      (bcons (ssetC (i := 1) (sc := defScope s_with_kids) (NX := ["tree", "kids"]) ["side"] [none] rfl sc_with_kids.nd rfl rfl (iseq K (qtup (qcons (qix (xIx K) (qv 0) qint (fun _ _ => rfl)) (qcons (qix (xIx K) (qv 0) qint (fun _ _ => rfl)) qnil)))) (fun _ _ _ => (gname (i := 0) (show (["side"] : List Str).Nodup by decide +kernel) rfl (by first | exact Or.inl rfl | exact Or.inr rfl))) (fun _ _ _ => (csone (tcmp rIsNot (qv 0) qnon (nomark _)))) (fun _ _ _ => (qix (xIx K) (qv 0) qint (fun _ _ => rfl))) rfl rfl (by decide +kernel) rfl)
      (bone (sret (qop rAdd (qop rAdd (qF C_with_kids (hr.mono (by omega)) pass0 rfl (qcons (qix (xIx K) (qv 0) qint (fun _ _ => rfl)) qnil)) (qF C_with_kids (hr.mono (by omega)) pass0 rfl (qcons (qix (xIx K) (qv 0) qint (fun _ _ => rfl)) qnil))) (qlst (qcons (qtup (qcons (qix (xIx K) (qv 0) qint (fun _ _ => rfl)) (qcons (qv 1) qnil))) qnil))))))), ?_⟩
      cases t with
      | nil =>
        cases rep_nil hv
        exact ⟨_, rfl, rfl, _, rfl, (show 0 ≤ sizeLine by decide), fun r H1 n1 s1 e1 _ => q r H1 [] s1 e1 .nil⟩
      | node l x r =>
        obtain ⟨a, vl, vr, rfl, ea, hl, hr'⟩ := rep_node hv
        simp only [Tr.ht] at ht
        simp only [Tr.size] at hz
        refine ⟨_, rfl, rfl, _, rfl, ?_⟩
        -- kids
        refine ⟨_, rfl, a, _, 0, _, rfl, rfl, .inr (SqT.of ea), atI_nat (j := 0) rfl, _, rfl, a, _, 2, _, rfl, rfl, .inr (SqT.of ea), atI_nat (j := 2) rfl, (show 2 ≤ sizeLine by decide), fun p1 H1 n1 s1 e1 _ => ?_⟩
        refine ⟨p1, rfl, .inr ⟨⟨_, SqT.of e1⟩, fun acc ha => ?_⟩⟩
        refine comp_tup (xs := [vl, vr]) (fun i ys σ H' => ∃ z, σ = [z] ∧ Same H1 H' ∧ H' acc = some (.lst ys) ∧ ys = ((([l, r] : List Tr).take i).flatMap Tr.key?).map V.int) ⟨none, rfl, same_new ha, upd_same, rfl⟩ (fun i ys σ H' ⟨_, _, s', _⟩ => SqT.of (s' _ _ e1)) ?_ ?_
        · rintro i ys y σ H2 hy hi ⟨z, rfl, s2, e2, rfl⟩
          have hyt : ∃ t : Tr, ([l, r] : List Tr)[i]? = some t ∧ Rep H2 y t.d := by
            match i, hy with
            | 0, hy => simp at hy; subst hy; exact ⟨l, rfl, (hl.mono s1).mono s2⟩
            | 1, hy => simp at hy; subst hy; exact ⟨r, rfl, (hr'.mono s1).mono s2⟩
          obtain ⟨ty, hty, gy⟩ := hyt
          have htk : (([l, r] : List Tr).take (i + 1)).flatMap Tr.key? = (([l, r] : List Tr).take i).flatMap Tr.key? ++ ty.key? := by rw [List.take_add_one, hty]; simp
          have hsm : ((([l, r] : List Tr).take i).flatMap Tr.key?).length ≤ 2 := by
            have h1 := key_short l
            have h2 := key_short r
            match i, hi with
            | 0, _ => simp
            | 1, _ => simp; omega
          rcases side_step gy with ⟨rfl, hk⟩ | ⟨b, bl, br, k, rfl, eb, hk⟩
          · refine ⟨_, rfl, rfl, _, rfl, ?_⟩
            refine cskip hi (ys := ((([l, r] : List Tr).take i).flatMap Tr.key?).map V.int) ?_
            exact ⟨_, rfl, s2, e2, by rw [htk, hk, List.append_nil]⟩
          · refine ⟨_, rfl, rfl, _, rfl, ?_⟩
            refine ⟨_, rfl, b, _, 1, _, rfl, rfl, .inr (SqT.of eb), atI_nat (j := 1) rfl, ?_⟩
            refine cpost e2 (sizeBig (by rw [List.length_map]; omega)) hi ?_
            exact ⟨_, rfl, same_upd s2 ha, upd_same, by rw [htk, hk, List.map_append]; rfl⟩
        · rintro ys σ H2 ⟨z, rfl, s2, e2, rfl⟩
          have s12 : Same H H2 := s1.trans s2
          have hks : ((([l, r] : List Tr).take [vl, vr].length).flatMap Tr.key?) = l.key? ++ r.key? := by simp
          rw [hks] at e2
          -- the lists of both sides
          refine ⟨_, rfl, a, _, 0, _, rfl, rfl, .inr (SqT.of (s12 _ _ ea)), atI_nat (j := 0) rfl, vl, l, rfl, hl.mono s12, by omega, by omega, fun r3 H3 w3 s3 e3 g3 => ?_⟩
          have s13 := s12.trans s3
          refine ⟨_, rfl, a, _, 2, _, rfl, rfl, .inr (SqT.of (s13 _ _ ea)), atI_nat (j := 2) rfl, vr, r, rfl, hr'.mono s13, by omega, by omega, fun r4 H4 w4 s4 e4 g4 => ?_⟩
          have l3 := g3.length
          have l4 := g4.length
          rw [List.length_map, Tr.wk_length] at l3 l4
          refine ⟨_, _, s4 _ _ e3, e4, sizeBig' (by omega), fun r5 H5 n5 s5 e5 _ => ?_⟩
          have s15 := (s13.trans s4).trans s5
          refine ⟨_, rfl, a, _, 1, _, rfl, rfl, .inr (SqT.of (s15 _ _ ea)), atI_nat (j := 1) rfl, _, rfl, (show 2 ≤ sizeLine by decide), fun r6 H6 n6 s6 e6 _ => ?_⟩
          refine ⟨(show 1 ≤ sizeLine by decide), fun r7 H7 n7 s7 e7 _ => ?_⟩
          refine ⟨_, _, s7 _ _ (s6 _ _ e5), e7, sizeBig' (by simp; omega), fun r8 H8 n8 s8 e8 _ => ?_⟩
          have s38 : Same H3 H8 := s4.trans (s5.trans (s6.trans (s7.trans s8)))
          have s48 : Same H4 H8 := s5.trans (s6.trans (s7.trans s8))
          refine q r8 H8 _ (s15.trans (s6.trans (s7.trans s8))) e8 ?_
          rw [Tr.wk, List.map_append, List.map_append]
          refine ((g3.mono s38).append (g4.mono s48)).append (.cons (.tup (s8 _ _ (s7 _ _ e6)) (.cons (.int x) (.cons (.lst (s38 _ _ (s3 _ _ e2)) ?_) .nil))) .nil)
          exact Reps.ints _
end
end K57
namespace K57
open PySem L2 L3
section
variable {P : Program} {w : World} {K : PySem.W.Frag} {mg : Str → Option Value} {base : Heap}
theorem rule_cons {ks : List (Int × Int)} {room lv : Int} (h : ks ≠ []) (hl : lv = maxI (ks.map (·.1))) :
    ruleM ks room = if 1 + ((ks.filter fun p => decide (p.1 = lv)).map (·.2)).sum ≤ room then (lv, 1 + ((ks.filter fun p => decide (p.1 = lv)).map (·.2)).sum) else (lv + 1, 1) := by
  subst hl
  unfold ruleM
  rw [if_neg h]
theorem ok_from {f : Addr} (F : Fd K mg "mark_from" s_mark_from f) (T : Tx K mg) : Cal P w K mg base CX0 1 "mark_from" spFrom := by
  refine F.cal sc_mark_from (fun _ _ _ _ _ _ us hl => match us, hl with | [_, _], _ => rfl) (fun vs H Q E h => ?_) (fun cdv A outer s H vs Q E hr h => ?_)
  · obtain ⟨a, ws, ks, room, rfl, _⟩ := h; rfl
  · obtain ⟨a, ws, ks, room, rfl, ea, rs, hlen, q⟩ := h
    have hl := rs.length
    rw [List.length_map] at hl
    refine ⟨_, (bcons (sif (tnot (ttru K (qv 0) (fun _ => rfl))) (bone (sret (qtup (qcons qint (qcons qint qnil))))) bnil)
      (bcons (sset (i := 2) sc_mark_from.nd rfl (by first | exact Or.inl rfl | exact Or.inr rfl) (qB (fMax K) rfl T.b_max bt_max (qcons (qcomp (sc := defScope s_mark_from) (NX := ["kid_marks", "room", "level", "size"]) ["mark"] [none] rfl (iseq K (qv 0)) (fun _ _ _ => (gname (i := 0) (show (["mark"] : List Str).Nodup by decide +kernel) rfl (by first | exact Or.inl rfl | exact Or.inr rfl))) (fun _ _ _ => csnil) (fun _ _ _ => (qix (xIx K) (qv 0) qint (fun _ _ => rfl))) rfl rfl (by decide +kernel)) qnil)))
      (bcons (sset (i := 3) sc_mark_from.nd rfl (by first | exact Or.inl rfl | exact Or.inr rfl) (qop rAdd qint (qB (fSum K) rfl T.b_sum bt_sum (qcons (qcomp (sc := defScope s_mark_from) (NX := ["kid_marks", "room", "level", "size"]) ["mark", "level"] [none, some 2] rfl (iseq K (qv 0)) (fun _ _ _ => (gname (i := 0) (show (["mark", "level"] : List Str).Nodup by decide +kernel) rfl (by first | exact Or.inl rfl | exact Or.inr rfl))) (fun _ _ _ => (csone (tcmp (rEqq hr) (qix (xIx K) (qv 0) qint (fun _ _ => rfl)) (qv 1) (nomark _)))) (fun _ _ _ => (qix (xIx K) (qv 0) qint (fun _ _ => rfl))) rfl rfl (by decide +kernel)) qnil))))
      (bone (sret (qif (tcmp rLe (qv 3) (qv 1) (nomark _)) (qtup (qcons (qv 2) (qcons (qv 3) qnil))) (qtup (qcons (qop rAdd (qv 2) qint) (qcons qint qnil))))))))), ?_⟩
    refine ⟨_, rfl, _, .inl ⟨_, SqL.of ea, rfl⟩, ?_⟩
    cases ks with
    | nil =>
      cases rs
      refine ⟨(show 2 ≤ sizeLine by decide), fun b H1 n1 s1 e1 _ => ?_⟩
      exact q b H1 s1 e1
    | cons k0 ks' =>
      have hws : ws.isEmpty = false := by cases ws with
        | nil => simp at hl
        | cons _ _ => rfl
      rw [hws]
      refine iteF ?_
      generalize hks : (k0 :: ks') = ks at *
      -- level
      refine ⟨_, rfl, a, rfl, .inl ⟨⟨_, SqL.of ea⟩, fun acc ha => ?_⟩⟩
      refine comp_list (xs := ws) (fun i ys σ H' => ∃ z, σ = [z] ∧ Same H H' ∧ H' acc = some (.lst ys) ∧ ys = ((ks.take i).map (·.1)).map V.int) ⟨none, rfl, same_new ha, upd_same, rfl⟩ (fun i ys σ H' ⟨_, _, s', _⟩ => SqL.of (s' _ _ ea)) ?_ ?_
      · rintro i ys y σ H2 hy hi ⟨z, rfl, s2, e2, rfl⟩
        obtain ⟨m, hm, gm⟩ := reps_map rs hy
        obtain ⟨b, rfl, eb⟩ := rep_pair gm
        refine ⟨_, rfl, b, _, 0, _, rfl, rfl, .inr (SqT.of (s2 _ _ eb)), atI_nat (j := 0) rfl, ?_⟩
        refine cpost e2 (sizeBig (by simp; omega)) hi ?_
        exact ⟨_, rfl, same_upd s2 ha, upd_same, by rw [List.take_add_one, hm, List.map_append, List.map_append]; rfl⟩
      · rintro ys σ H2 ⟨z, rfl, s2, e2, rfl⟩
        rw [List.take_of_length_le (by omega)] at e2
        refine ⟨acc, ks.map (·.1), rfl, SqL.of e2, by rw [← hks]; simp, fun M hM1 hM2 => ?_⟩
        have hMm := maxI_spec _ M hM1 hM2
        have hne : ks ≠ [] := by rw [← hks]; simp
        have hrule := rule_cons (room := room) hne hMm
        -- size
        refine ⟨_, rfl, a, rfl, .inl ⟨⟨_, SqL.of (s2 _ _ ea)⟩, fun acc2 ha2 => ?_⟩⟩
        refine comp_list (xs := ws) (fun i ys σ H' => ∃ z, σ = [z, some (.int M)] ∧ Same H2 H' ∧ H' acc2 = some (.lst ys) ∧ ys = (((ks.take i).filter fun p => decide (p.1 = M)).map (·.2)).map V.int) ⟨none, rfl, same_new ha2, upd_same, rfl⟩ (fun i ys σ H' ⟨_, _, s', _⟩ => SqL.of (s' _ _ (s2 _ _ ea))) ?_ ?_
        · rintro i ys y σ H3 hy hi ⟨z, rfl, s3, e3, rfl⟩
          obtain ⟨m, hm, gm⟩ := reps_map rs hy
          obtain ⟨b, rfl, eb⟩ := rep_pair gm
          have eb3 := s3 _ _ (s2 _ _ eb)
          have hfl := List.length_filter_le (fun p : Int × Int => decide (p.1 = M)) (ks.take i)
          rw [List.length_take] at hfl
          have htk : (ks.take (i + 1)).filter (fun p => decide (p.1 = M)) = (ks.take i).filter (fun p => decide (p.1 = M)) ++ (if m.1 = M then [m] else []) := by
            rw [List.take_add_one, hm, List.filter_append]
            congr 1
            by_cases h : m.1 = M <;> simp [h]
          refine ⟨_, rfl, b, _, 0, _, rfl, rfl, .inr (SqT.of eb3), atI_nat (j := 0) rfl, _, rfl, _, rfl, ?_⟩
          refine ite2 (fun h => ?_) (fun h => ?_)
          · have h : m.1 = M := of_decide_eq_true h
            rw [if_pos h] at htk
            refine ⟨_, rfl, b, _, 1, _, rfl, rfl, .inr (SqT.of eb3), atI_nat (j := 1) rfl, ?_⟩
            refine cpost e3 (sizeBig (by simp only [List.length_map]; omega)) hi ?_
            exact ⟨_, rfl, same_upd s3 ha2, upd_same, by rw [htk, List.map_append, List.map_append]; rfl⟩
          · have h : ¬ m.1 = M := fun z => h (decide_eq_true z)
            rw [if_neg h, List.append_nil] at htk
            refine cskip hi (ys := (((ks.take i).filter fun p => decide (p.1 = M)).map (·.2)).map V.int) ?_
            exact ⟨_, rfl, s3, e3, by rw [htk]⟩
        · rintro ys σ H3 ⟨z, rfl, s3, e3, rfl⟩
          rw [List.take_of_length_le (by omega)] at e3
          refine ⟨acc2, _, rfl, SqL.of e3, ?_⟩
          -- the end
          refine ⟨_, rfl, _, rfl, _, _, rfl, rfl, _, rfl, ?_⟩
          refine ite2 (fun h => ?_) (fun h => ?_)
          · have h := of_decide_eq_true h
            rw [if_pos h] at hrule
            refine ⟨_, rfl, _, rfl, (show 2 ≤ sizeLine by decide), fun b H4 n4 s4 e4 _ => ?_⟩
            refine q b H4 (s2.trans (s3.trans s4)) ?_
            rw [hrule]; exact e4
          · have h : ¬ _ := fun z => h (decide_eq_true z)
            rw [if_neg h] at hrule
            refine ⟨_, rfl, (show 2 ≤ sizeLine by decide), fun b H4 n4 s4 e4 _ => ?_⟩
            refine q b H4 (s2.trans (s3.trans s4)) ?_
            rw [hrule]; exact e4
theorem ok_byKey {f : Addr} (F : Fd K mg "marks_by_key" s_marks_by_key f) (T : Tx K mg) (C_with_kids : Cal P w K mg base CX0 80 "with_kids" (spWk 80)) (C_mark_from : Cal P w K mg base CX0 1 "mark_from" spFrom) : Cal P w K mg base CX0 82 "marks_by_key" spByKey := by
  refine F.cal sc_marks_by_key (fun _ _ _ _ _ _ us hl => match us, hl with | [_, _], _ => rfl) (fun vs H Q E h => ?_) (fun cdv A outer s H vs Q E hr h => ?_)
  · obtain ⟨v, t, room, rfl, _⟩ := h; rfl
  · obtain ⟨v, t, room, rfl, hv, ht, hz, hnd, q⟩ := h
    refine ⟨_, (bcons (sset (i := 2) sc_marks_by_key.nd rfl (by first | exact Or.inl rfl | exact Or.inr rfl) qdict)
      (bcons (sfor PassesOwn.never rfl (iseq K (qF C_with_kids (hr.mono (by omega)) pass0 rfl (qcons (qv 0) qnil))) (gtup (n := 2) K rfl (gscons (gname (i := 3) sc_marks_by_key.nd rfl (by first | exact Or.inl rfl | exact Or.inr rfl)) (gscons (gname (i := 4) sc_marks_by_key.nd rfl (by first | exact Or.inl rfl | exact Or.inr rfl)) gsnil)))
        (bone (sdput hr (qv 2) (qv 3) (qF C_mark_from (hr.mono (by omega)) pass0 rfl (qcons (qcomp (sc := defScope s_marks_by_key) (NX := ["tree", "room", "told", "key", "kids"]) ["kid", "told"] [none, some 2] rfl (iseq K (qv 4)) (fun _ _ _ => (gname (i := 0) (show (["kid", "told"] : List Str).Nodup by decide +kernel) rfl (by first | exact Or.inl rfl | exact Or.inr rfl))) (fun _ _ _ => csnil) (fun _ _ _ => (qdget hr (qv 1) (qv 0) (fun _ _ => rfl))) rfl rfl (by decide +kernel)) (qcons (qv 1) qnil))) rfl)))
      (bone (sret (qv 2))))), ?_⟩
    refine fun d H1 n1 s1 e1 _ => ?_
    refine ⟨_, rfl, v, t, rfl, hv.mono s1, ht, hz, fun r H2 ws s2 e2 g2 => ?_⟩
    have ed2 := s2 _ _ e1
    have hrd : r ≠ d := fun z => by rw [z, ed2] at e2; cases e2
    have gB : Reps (rm d H2) ws (t.wk.map kidD) := Reps.apart ed2 g2 (pures_map pure_kid _)
    have eB : rm d H2 r = some (.lst ws) := by rw [rm_ne hrd]; exact e2
    have hlw := g2.length
    rw [List.length_map, Tr.wk_length] at hlw
    have hpn := Tr.pt_nodup room hnd
    have hdH : (rm d H2) d = none := rm_self
    have sHB : Same H (rm d H2) := fun b o hb => by rw [rm_ne (ne_of_none hb n1)]; exact s2 _ _ (s1 _ _ hb)
    refine ⟨r, rfl, .inl ⟨⟨_, SqL.of e2⟩, for_list (xs := ws) (fun i σ H' => ∃ z1 z2 kvs, σ = [some v, some (.int room), some (.ref d), z1, z2] ∧ Same (rm d H2) H' ∧ H' d = some (.dK kvs) ∧ DT H' kvs ((t.wk.take i).foldl (stepT room) []))
      ⟨none, none, [], rfl, rm_same, ed2, .nil⟩ (fun i σ H' _ ⟨_, _, _, _, s', _⟩ => SqL.of (s' _ _ eB)) ?_ ?_⟩⟩
    · rintro i x σ H3 hx ⟨z1, z2, kvs, rfl, s3, ed, DTT⟩
      have hi := (List.getElem?_eq_some_iff.mp hx).1
      obtain ⟨e, he, ge⟩ := reps_map gB hx
      obtain ⟨b, c, rfl, eb, ec⟩ := rep_kid ge
      have eb3 := s3 _ _ eb
      have ec3 := s3 _ _ ec
      refine ⟨b, _, rfl, SqT.of eb3, rfl, _, _, rfl, _, _, rfl, rfl, ?_⟩
      have hkeys : (((t.wk.take i).foldl (stepT room) []).map (·.1)) = (t.wk.take i).map (·.1) := by rw [step_keys]; rfl
      have hall : (t.wk.map (·.1)).Nodup := by rw [Tr.wk_keys room]; exact hpn
      have hsplit : t.wk.map (·.1) = (t.wk.take i).map (·.1) ++ e.1 :: (t.wk.drop (i + 1)).map (·.1) := by
        have h1 : t.wk = t.wk.take i ++ e :: t.wk.drop (i + 1) := by
          obtain ⟨hlt, hee⟩ := List.getElem?_eq_some_iff.mp he
          rw [← hee, List.getElem_cons_drop, List.take_append_drop]
        conv => lhs; rw [h1]
        rw [List.map_append, List.map_cons]
      rw [hsplit] at hall
      have hndt : (((t.wk.take i).foldl (stepT room) []).map (·.1)).Nodup := by rw [hkeys]; exact (List.nodup_append.mp hall).1
      have hnew : e.1 ∉ ((t.wk.take i).foldl (stepT room) []).map (·.1) := by
        rw [hkeys]
        intro hm
        exact (List.nodup_append.mp hall).2.2 _ hm _ List.mem_cons_self rfl
      have hah := ahead_at t.wk [] i e (Tr.wk_ahead t) he
      generalize htb : (t.wk.take i).foldl (stepT room) [] = tb at *
      have hlook : ∀ k ∈ e.2, ∃ m, look tb k = some m := fun k hk => by
        have h1 := hah k hk
        rw [List.nil_append, ← hkeys] at h1
        obtain ⟨en, hen, rfl⟩ := List.mem_map.mp h1
        exact ⟨en.2, look_mem hndt hen⟩
      have hle2 : e.2.length ≤ 1000 := by
        have := Tr.wk_small t e (List.mem_of_getElem? he)
        omega
      have hwl := Tr.wk_length t
      -- the kids' marks
      refine ⟨_, rfl, c, rfl, .inl ⟨⟨_, SqL.of ec3⟩, fun acc ha => ?_⟩⟩
      have hcd : acc ≠ d := fun z => by rw [z, ed] at ha; cases ha
      refine comp_list (xs := e.2.map V.int) (fun j ys σ H' => ∃ z, σ = [z, some (.ref d)] ∧ Same H3 H' ∧ H' acc = some (.lst ys) ∧ Reps H3 ys (((e.2.take j).filterMap (look tb)).map pairD)) ⟨none, rfl, same_new ha, upd_same, .nil⟩ (fun j ys σ H' ⟨_, _, s', _⟩ => SqL.of (s' _ _ ec3)) ?_ ?_
      · rintro j ys y σ H4 hy hj ⟨z, rfl, s4, e4, g4⟩
        rw [List.getElem?_map] at hy
        obtain ⟨k, hk, rfl⟩ := Option.map_eq_some_iff.mp hy
        obtain ⟨m, hm⟩ := hlook k (List.mem_of_getElem? hk)
        obtain ⟨bm, hv1, hb1⟩ := DTT.val hm
        have hg : DGet H4 d (.int k) (some (.ref bm)) := by
          have := DGet.k (k := (Sum.inl k : Key)) (s4 _ _ ed)
          rw [hv1] at this
          exact this
        refine ⟨_, rfl, _, rfl, d, .ref bm, rfl, hg, ?_⟩
        have hl4 := g4.length
        rw [List.length_map] at hl4
        have hfl := List.length_filterMap_le (look tb) (e.2.take j)
        rw [List.length_take] at hfl
        refine cpost e4 (sizeBig (by omega)) hj ?_
        refine ⟨_, rfl, same_upd s4 ha, upd_same, ?_⟩
        rw [List.take_add_one, hk, List.filterMap_append, List.map_append]
        refine g4.append ?_
        simp only [Option.toList, List.filterMap_cons, hm, List.filterMap_nil, List.map_cons, List.map_nil]
        exact .cons (pair_rep hb1) .nil
      · rintro ys σ H4 ⟨z, rfl, s4, e4, g4⟩
        rw [List.length_map, List.take_length] at g4
        have hfl := List.length_filterMap_le (look tb) e.2
        refine ⟨_, rfl, acc, ys, e.2.filterMap (look tb), room, rfl, e4, g4.mono s4, by omega, fun bm H5 s5 e5 => ?_⟩
        have ed5 := s5 _ _ (s4 _ _ ed)
        have dl := DTT.length
        have tl : tb.length = i := by
          have := congrArg List.length hkeys
          rw [List.length_map, List.length_map, List.length_take] at this
          omega
        refine ⟨_, rfl, _, rfl, d, _, rfl, DPut.k (k := (Sum.inl e.1 : Key)) ed5 (sizeBig (by omega)), ?_⟩
        refine ⟨_, _, _, rfl, same_upd (s3.trans (s4.trans s5)) hdH, upd_same, ?_⟩
        rw [List.take_add_one, he, List.foldl_append, htb]
        exact ((DTT.mono (s4.trans s5)).put hnew e5).upd ed5 (fun vs z => nomatch z)
    · rintro σ H3 ⟨z1, z2, kvs, rfl, s3, ed, DTT⟩
      refine ⟨_, rfl, ?_⟩
      refine q d H3 kvs n1 (sHB.trans s3) ed ?_
      rw [List.take_of_length_le (by rw [Tr.wk_length]; omega), Tr.fold_wk room t [] (by simpa using hpn)] at DTT
      exact DTT
theorem ok_marks {f : Addr} (F : Fd K mg "marks" s_marks f) (T : Tx K mg) (C_marks_by_key : Cal P w K mg base CX0 82 "marks_by_key" spByKey) (C_keys_of : Cal P w K mg base CX0 82 "keys_of" (spKof 82)) : Cal P w K mg base CX0 84 "marks" spMarks := by
  refine F.cal sc_marks (fun _ _ _ _ _ _ us hl => match us, hl with | [_, _], _ => rfl) (fun vs H Q E h => ?_) (fun cdv A outer s H vs Q E hr h => ?_)
  · obtain ⟨v, t, room, rfl, _⟩ := h; rfl
  · obtain ⟨v, t, room, rfl, hv, ht, hz, hnd, q⟩ := h
    refine ⟨_, (bcons (sset (i := 2) sc_marks.nd rfl (by first | exact Or.inl rfl | exact Or.inr rfl) (qF C_marks_by_key (hr.mono (by omega)) pass0 rfl (qcons (qv 0) (qcons (qv 1) qnil))))
      (bone (sret (qcomp (sc := defScope s_marks) (NX := ["tree", "room", "told"]) ["key", "told"] [none, some 2] rfl (iseq K (qF C_keys_of (hr.mono (by omega)) pass0 rfl (qcons (qv 0) qnil))) (fun _ _ _ => (gname (i := 0) (show (["key", "told"] : List Str).Nodup by decide +kernel) rfl (by first | exact Or.inl rfl | exact Or.inr rfl))) (fun _ _ _ => csnil) (fun _ _ _ => (qtup (qcons (qv 0) (qcons (qix (xIx K) (qdget hr (qv 1) (qv 0) (fun _ _ => rfl)) qint (fun _ _ => rfl)) (qcons (qix (xIx K) (qdget hr (qv 1) (qv 0) (fun _ _ => rfl)) qint (fun _ _ => rfl)) qnil))))) rfl rfl (by decide +kernel))))), ?_⟩
    refine ⟨_, rfl, _, rfl, v, t, room, rfl, hv, ht, hz, hnd, fun d H1 kvs n1 s1 e1 D1 => ?_⟩
    refine ⟨_, rfl, v, t, rfl, hv.mono s1, by omega, hz, fun r H2 n2 s2 e2 => ?_⟩
    refine ⟨r, rfl, .inl ⟨⟨_, SqL.of e2⟩, fun acc ha => ?_⟩⟩
    have s12 := s1.trans s2
    have D2 := D1.mono s2
    have hpn := Tr.pt_nodup room hnd
    have hkl := Tr.keys_length t
    have hio := Tr.io_keys room t
    have hil : (t.io room).length = t.size := by rw [← hkl, ← hio, List.length_map]
    refine comp_list (xs := t.keys.map V.int) (fun j ys σ H' => ∃ z, σ = [z, some (.ref d)] ∧ Same H2 H' ∧ H' acc = some (.lst ys) ∧ ys.length = j ∧ Reps (rm acc H') ys (((t.io room).take j).map rowD)) ⟨none, rfl, same_new ha, upd_same, rfl, .nil⟩ (fun j ys σ H' ⟨_, _, s', _⟩ => SqL.of (s' _ _ e2)) ?_ ?_
    · rintro j ys y σ H3 hy hj ⟨z, rfl, s3, e3, l3, g3⟩
      rw [List.getElem?_map] at hy
      obtain ⟨k, hk, rfl⟩ := Option.map_eq_some_iff.mp hy
      rw [← hio, List.getElem?_map] at hk
      obtain ⟨en, hen, rfl⟩ := Option.map_eq_some_iff.mp hk
      rw [List.length_map] at hj
      have hm := look_mem (k := en.1) (m := en.2) hpn (Tr.io_pt room t en (List.mem_of_getElem? hen))
      obtain ⟨bm, hv1, hb1⟩ := D2.val hm
      have hg : ∀ {H4 : Hp}, Same H2 H4 → DGet H4 d (.int en.1) (some (.ref bm)) := fun s4 => by
        have := DGet.k (k := (Sum.inl en.1 : Key)) (s4 _ _ (s2 _ _ e1))
        rw [hv1] at this
        exact this
      refine ⟨_, rfl, _, rfl, _, rfl, d, .ref bm, rfl, hg s3, bm, _, 0, _, rfl, rfl, .inr (SqT.of (s3 _ _ hb1)), atI_nat (j := 0) rfl, ?_⟩
      refine ⟨_, rfl, _, rfl, d, .ref bm, rfl, hg s3, bm, _, 1, _, rfl, rfl, .inr (SqT.of (s3 _ _ hb1)), atI_nat (j := 1) rfl, ?_⟩
      refine ⟨(show 3 ≤ sizeLine by decide), fun b4 H4 n4 s4 e4 _ => ?_⟩
      have hb4 : b4 ≠ acc := fun z => by rw [z, e3] at n4; cases n4
      refine cpost (s4 _ _ e3) (sizeBig (by omega)) (by rw [List.length_map]; exact hj) ?_
      refine ⟨_, rfl, same_upd (s3.trans s4) ha, upd_same, by simp [l3], ?_⟩
      rw [rm_upd, List.take_add_one, hen, List.map_append]
      refine (g3.mono (rm_of' s4)).append (.cons (.tup (by rw [rm_ne hb4]; exact e4) (.cons (.int _) (.cons (.int _) (.cons (.int _) .nil)))) .nil)
    · rintro ys σ H3 ⟨z, rfl, s3, e3, l3, g3⟩
      rw [List.length_map, List.take_of_length_le (by omega)] at g3
      exact q acc H3 ys (s12.free ha) (s12.trans s3) e3 (g3.mono rm_same)
end
end K57
namespace K57
open PySem L2 L3
end K57
namespace K57B
open PySem L2 L3 K57
def spWk (n : Nat) : Sp := fun vs H Q _ => ∃ (v : V) (t : Tr), vs = [v] ∧ Rep H v (Tr.d t) ∧ t.ht < n ∧ t.size ≤ 1000 ∧ ∀ r H' ws, H r = none → Same H H' → H' r = some (.lst ws) → (∀ x o, H x = some o → Reps (rm x H') ws (t.wk.map kidD)) → Reps H' ws (t.wk.map kidD) → Q (.ref r) H'
section
variable {P : Program} {w : World} {K : PySem.W.Frag} {mg : Str → Option Value} {base : Heap}
theorem side_step {H : Hp} {v : V} {t : Tr} (h : Rep H v t.d) : (v = .non ∧ t.key? = []) ∨ ∃ a vl vr k, v = .ref a ∧ H a = some (.tup [vl, .int k, vr]) ∧ t.key? = [k] := by
  cases t with
  | nil => exact .inl ⟨rep_nil h, rfl⟩
  | node l k r => obtain ⟨a, vl, vr, rfl, e, _⟩ := rep_node h; exact .inr ⟨a, vl, vr, k, rfl, e, rfl⟩
theorem key_short (t : Tr) : t.key?.length ≤ 1 := by cases t <;> simp [Tr.key?]
theorem ok_wk {f : Addr} (F : Fd K mg "with_kids" s_with_kids f) (T : Tx K mg) : ∀ n, Cal P w K mg base CX0 n "with_kids" (spWk n) := by
  intro n
  induction n with
  | zero => exact (F.none (ps := ["tree"]) (fun _ _ _ _ _ _ us hl => match us, hl with | [_], _ => rfl) fun vs H Q E ⟨v, t, _, _, h2, _⟩ => by omega)
  | succ n C_with_kids =>
    refine F.cal sc_with_kids (fun _ _ _ _ _ _ us hl => match us, hl with | [_], _ => rfl) (fun vs H Q E h => ?_) (fun cdv A outer s H vs Q E hr h => ?_)
    · obtain ⟨v, t, rfl, _⟩ := h; rfl
    · obtain ⟨v, t, rfl, hv, ht, hz, q⟩ := h
      refine ⟨_, (bcons (sif (tcmp rIs (qv 0) qnon (nomark _)) (bone (sret (qlst qnil))) bnil)
      (bcons (ssetC (i := 1) (sc := defScope s_with_kids) (NX := ["tree", "kids"]) ["side"] [none] rfl sc_with_kids.nd rfl rfl (iseq K (qtup (qcons (qix (xIx K) (qv 0) qint (fun _ _ => rfl)) (qcons (qix (xIx K) (qv 0) qint (fun _ _ => rfl)) qnil)))) (fun _ _ _ => (gname (i := 0) (show (["side"] : List Str).Nodup by decide +kernel) rfl (by first | exact Or.inl rfl | exact Or.inr rfl))) (fun _ _ _ => (csone (tcmp rIsNot (qv 0) qnon (nomark _)))) (fun _ _ _ => (qix (xIx K) (qv 0) qint (fun _ _ => rfl))) rfl rfl (by decide +kernel) rfl)
      (bone (sret (qop rAdd (qop rAdd (qF C_with_kids (hr.mono (by omega)) pass0 rfl (qcons (qix (xIx K) (qv 0) qint (fun _ _ => rfl)) qnil)) (qF C_with_kids (hr.mono (by omega)) pass0 rfl (qcons (qix (xIx K) (qv 0) qint (fun _ _ => rfl)) qnil))) (qlst (qcons (qtup (qcons (qix (xIx K) (qv 0) qint (fun _ _ => rfl)) (qcons (qv 1) qnil))) qnil))))))), ?_⟩
      cases t with
      | nil =>
        cases rep_nil hv
        exact ⟨_, rfl, rfl, _, rfl, (show 0 ≤ sizeLine by decide), fun r H1 n1 s1 e1 _ => q r H1 [] n1 s1 e1 (fun _ _ _ => .nil) .nil⟩
      | node l x r =>
        obtain ⟨a, vl, vr, rfl, ea, hl, hr'⟩ := rep_node hv
        simp only [Tr.ht] at ht
        simp only [Tr.size] at hz
        refine ⟨_, rfl, rfl, _, rfl, ?_⟩
        -- kids
        refine ⟨_, rfl, a, _, 0, _, rfl, rfl, .inr (SqT.of ea), atI_nat (j := 0) rfl, _, rfl, a, _, 2, _, rfl, rfl, .inr (SqT.of ea), atI_nat (j := 2) rfl, (show 2 ≤ sizeLine by decide), fun p1 H1 n1 s1 e1 _ => ?_⟩
        refine ⟨p1, rfl, .inr ⟨⟨_, SqT.of e1⟩, fun acc ha => ?_⟩⟩
        refine comp_tup (xs := [vl, vr]) (fun i ys σ H' => ∃ z, σ = [z] ∧ Same H1 H' ∧ H' acc = some (.lst ys) ∧ ys = ((([l, r] : List Tr).take i).flatMap Tr.key?).map V.int) ⟨none, rfl, same_new ha, upd_same, rfl⟩ (fun i ys σ H' ⟨_, _, s', _⟩ => SqT.of (s' _ _ e1)) ?_ ?_
        · rintro i ys y σ H2 hy hi ⟨z, rfl, s2, e2, rfl⟩
          have hyt : ∃ t : Tr, ([l, r] : List Tr)[i]? = some t ∧ Rep H2 y t.d := by
            match i, hy with
            | 0, hy => simp at hy; subst hy; exact ⟨l, rfl, (hl.mono s1).mono s2⟩
            | 1, hy => simp at hy; subst hy; exact ⟨r, rfl, (hr'.mono s1).mono s2⟩
          obtain ⟨ty, hty, gy⟩ := hyt
          have htk : (([l, r] : List Tr).take (i + 1)).flatMap Tr.key? = (([l, r] : List Tr).take i).flatMap Tr.key? ++ ty.key? := by rw [List.take_add_one, hty]; simp
          have hsm : ((([l, r] : List Tr).take i).flatMap Tr.key?).length ≤ 2 := by
            have h1 := key_short l
            have h2 := key_short r
            match i, hi with
            | 0, _ => simp
            | 1, _ => simp; omega
          rcases side_step gy with ⟨rfl, hk⟩ | ⟨b, bl, br, k, rfl, eb, hk⟩
          · refine ⟨_, rfl, rfl, _, rfl, ?_⟩
            refine cskip hi (ys := ((([l, r] : List Tr).take i).flatMap Tr.key?).map V.int) ?_
            exact ⟨_, rfl, s2, e2, by rw [htk, hk, List.append_nil]⟩
          · refine ⟨_, rfl, rfl, _, rfl, ?_⟩
            refine ⟨_, rfl, b, _, 1, _, rfl, rfl, .inr (SqT.of eb), atI_nat (j := 1) rfl, ?_⟩
            refine cpost e2 (sizeBig (by rw [List.length_map]; omega)) hi ?_
            exact ⟨_, rfl, same_upd s2 ha, upd_same, by rw [htk, hk, List.map_append]; rfl⟩
        · rintro ys σ H2 ⟨z, rfl, s2, e2, rfl⟩
          have s12 : Same H H2 := s1.trans s2
          have hks : ((([l, r] : List Tr).take [vl, vr].length).flatMap Tr.key?) = l.key? ++ r.key? := by simp
          rw [hks] at e2
          -- the lists of both sides
          refine ⟨_, rfl, a, _, 0, _, rfl, rfl, .inr (SqT.of (s12 _ _ ea)), atI_nat (j := 0) rfl, vl, l, rfl, hl.mono s12, by omega, by omega, fun r3 H3 w3 n3 s3 e3 x3 g3 => ?_⟩
          have s13 := s12.trans s3
          refine ⟨_, rfl, a, _, 2, _, rfl, rfl, .inr (SqT.of (s13 _ _ ea)), atI_nat (j := 2) rfl, vr, r, rfl, hr'.mono s13, by omega, by omega, fun r4 H4 w4 n4 s4 e4 x4 g4 => ?_⟩
          have l3 := g3.length
          have l4 := g4.length
          rw [List.length_map, Tr.wk_length] at l3 l4
          refine ⟨_, _, s4 _ _ e3, e4, sizeBig' (by omega), fun r5 H5 n5 s5 e5 _ => ?_⟩
          have s15 := (s13.trans s4).trans s5
          refine ⟨_, rfl, a, _, 1, _, rfl, rfl, .inr (SqT.of (s15 _ _ ea)), atI_nat (j := 1) rfl, _, rfl, (show 2 ≤ sizeLine by decide), fun r6 H6 n6 s6 e6 _ => ?_⟩
          refine ⟨(show 1 ≤ sizeLine by decide), fun r7 H7 n7 s7 e7 _ => ?_⟩
          refine ⟨_, _, s7 _ _ (s6 _ _ e5), e7, sizeBig' (by simp; omega), fun r8 H8 n8 s8 e8 _ => ?_⟩
          have s38 : Same H3 H8 := s4.trans (s5.trans (s6.trans (s7.trans s8)))
          have s48 : Same H4 H8 := s5.trans (s6.trans (s7.trans s8))
          refine q r8 H8 _ ((s15.trans (s6.trans s7)).free n8) (s15.trans (s6.trans (s7.trans s8))) e8 (fun y o hy => ?_) ?_
          · have y2 := s12 _ _ hy
            have y3 := s3 _ _ y2
            have y6 : y ≠ r6 := ne_of_none (s15 _ _ hy) n6
            have ya : y ≠ acc := ne_of_none (s1 _ _ hy) ha
            rw [Tr.wk, List.map_append, List.map_append]
            refine (((x3 y o y2).mono (rm_of' s38)).append ((x4 y o y3).mono (rm_of' s48))).append (.cons (.tup (by rw [rm_ne y6.symm]; exact s8 _ _ (s7 _ _ e6)) (.cons (.int x) (.cons (.lst (by rw [rm_ne ya.symm]; exact s38 _ _ (s3 _ _ e2)) ?_) .nil))) .nil)
            exact Reps.ints _
          rw [Tr.wk, List.map_append, List.map_append]
          refine ((g3.mono s38).append (g4.mono s48)).append (.cons (.tup (s8 _ _ (s7 _ _ e6)) (.cons (.int x) (.cons (.lst (s38 _ _ (s3 _ _ e2)) ?_) .nil))) .nil)
          exact Reps.ints _
end
theorem ord_lr {l r : Tr} {x : Int} {lo hi : Option Int} (h : (Tr.node l x r).ord lo hi) : (∀ k ∈ l.keys, k < x) ∧ ∀ k ∈ r.keys, x < k := by
  have := ord_rise _ _ _ h
  rw [Tr.keys, List.pairwise_append, List.pairwise_append] at this
  obtain ⟨⟨_, _, h1⟩, _, h2⟩ := this
  exact ⟨fun k hk => h1 k hk x (by simp), fun k hk => h2 x (by simp) k hk⟩
theorem at_left {l r : Tr} {x k : Int} (h : k < x) : at_ k (.node l x r) = at_ k l := by rw [at_, if_neg (by omega), if_pos h]
theorem at_right {l r : Tr} {x k : Int} (h : x < k) : at_ k (.node l x r) = at_ k r := by rw [at_, if_neg (by omega), if_neg (by omega)]
theorem at_self {l r : Tr} {x : Int} : at_ x (.node l x r) = .node l x r := by rw [at_, if_pos rfl]
theorem wk_keys : ∀ (t : Tr) (k : Int), k ∈ t.wk.map (·.1) ↔ k ∈ t.keys
  | .nil, k => by simp [Tr.wk, Tr.keys]
  | .node l x r, k => by
    have h1 := wk_keys l k
    have h2 := wk_keys r k
    rw [Tr.wk, Tr.keys, List.map_append, List.map_append, List.mem_append, List.mem_append, h1, h2, List.mem_append, List.mem_append]
    simp only [List.map_cons, List.map_nil, List.mem_singleton]
    constructor
    · rintro ((h | h) | h)
      · exact .inl (.inl h)
      · exact .inr h
      · exact .inl (.inr h)
    · rintro ((h | h) | h)
      · exact .inl (.inl h)
      · exact .inr h
      · exact .inl (.inr h)
theorem wk_at : ∀ (t : Tr) (lo hi : Option Int), t.ord lo hi → ∀ e ∈ t.wk, ∃ l r, at_ e.1 t = .node l e.1 r ∧ e.2 = l.key? ++ r.key?
  | .nil, _, _, _, e, he => by simp [Tr.wk] at he
  | .node l x r, lo, hi, h, e, he => by
    obtain ⟨g1, g2⟩ := ord_lr h
    rw [Tr.wk] at he
    rcases List.mem_append.mp he with he | he
    · rcases List.mem_append.mp he with he | he
      · have hk := (wk_keys l e.1).mp (List.mem_map.mpr ⟨e, he, rfl⟩)
        rw [at_left (g1 _ hk)]
        exact wk_at l _ _ h.2.2.1 e he
      · have hk := (wk_keys r e.1).mp (List.mem_map.mpr ⟨e, he, rfl⟩)
        rw [at_right (g2 _ hk)]
        exact wk_at r _ _ h.2.2.2 e he
    · rw [List.mem_singleton] at he
      subst he
      exact ⟨l, r, at_self, rfl⟩
theorem key_wk {t : Tr} {k : Int} (h : k ∈ t.key?) : k ∈ t.wk.map (·.1) := by
  cases t with
  | nil => simp [Tr.key?] at h
  | node l x r => simp [Tr.key?] at h; subst h; rw [Tr.wk]; simp
theorem wk_pre : ∀ (t : Tr) (i : Nat) (e : Int × List Int), t.wk[i]? = some e → ∀ k ∈ e.2, k ∈ (t.wk.take i).map (·.1)
  | .nil, i, e, h, _, _ => by simp [Tr.wk] at h
  | .node l x r, i, e, h, k, hk => by
    rw [Tr.wk] at h ⊢
    by_cases h1 : i < l.wk.length
    · rw [List.append_assoc, List.getElem?_append_left h1] at h
      rw [List.append_assoc, List.take_append_of_le_length (by omega)]
      exact wk_pre l i e h k hk
    · rw [List.append_assoc, List.getElem?_append_right (by omega)] at h
      rw [List.append_assoc, List.take_append, List.map_append, List.take_of_length_le (by omega), List.mem_append]
      by_cases h2 : i - l.wk.length < r.wk.length
      · rw [List.getElem?_append_left h2] at h
        rw [List.take_append_of_le_length (by omega)]
        exact .inr (wk_pre r _ e h k hk)
      · rw [List.getElem?_append_right (by omega)] at h
        have hi : i - l.wk.length - r.wk.length = 0 := by
          have := (List.getElem?_eq_some_iff.mp h).1
          simp at this; omega
        rw [hi] at h
        simp at h
        subst h
        rcases List.mem_append.mp hk with hk | hk
        · exact .inl (key_wk hk)
        · refine .inr ?_
          rw [List.take_append, List.map_append, List.take_of_length_le (by omega)]
          simp only [List.mem_append]
          exact .inl (key_wk hk)
theorem at_in : ∀ (t : Tr) (lo hi : Option Int), t.ord lo hi → ∀ (x : Int) (l r : Tr), at_ x t = .node l x r → ∀ a k b, (l = .node a k b ∨ r = .node a k b) → at_ k t = .node a k b
  | .nil, _, _, _, x, l, r, h, _, _, _, _ => by simp [at_] at h
  | .node L y R, lo, hi, h, x, l, r, hx, a, k, b, hs => by
    obtain ⟨g1, g2⟩ := ord_lr h
    by_cases hy : y = x
    · subst hy
      rw [at_self] at hx
      cases hx
      rcases hs with rfl | rfl
      · rw [at_left (g1 k (by simp [Tr.keys])), at_self]
      · rw [at_right (g2 k (by simp [Tr.keys])), at_self]
    · rw [at_, if_neg hy] at hx
      by_cases hlt : x < y
      · rw [if_pos hlt] at hx
        have hk : k ∈ (at_ x L).keys := by rw [hx]; rcases hs with rfl | rfl <;> simp [Tr.keys]
        rw [at_left (g1 k (at_sub _ _ _ hk))]
        exact at_in L _ _ h.2.2.1 x l r hx a k b hs
      · rw [if_neg hlt] at hx
        have hk : k ∈ (at_ x R).keys := by rw [hx]; rcases hs with rfl | rfl <;> simp [Tr.keys]
        rw [at_right (g2 k (at_sub _ _ _ hk))]
        exact at_in R _ _ h.2.2.2 x l r hx a k b hs
def top1 : Tr → Int
  | .nil => 0
  | .node _ k _ => k
theorem at_mem {k : Int} : ∀ {t : Tr}, at_ k t ≠ .nil → k ∈ t.keys
  | .nil, h => absurd rfl h
  | .node l x r, h => by
    rw [at_] at h
    by_cases e : x = k
    · subst e; simp [Tr.keys]
    · rw [if_neg e] at h
      split at h
      · have := at_mem (t := l) h; simp [Tr.keys, this]
      · have := at_mem (t := r) h; simp [Tr.keys, this]
end K57B
namespace K57B
open PySem L2 L3 K57
def knotD (k : Int) : D := .tup [.str "knot", .int k]
def partD (k : Int) (ds : List D) : D := .tup [.str "part", .int k, .tup ds]
def pap1 : Tr → List D
  | .nil => []
  | .node l k r => if (pap1 l ++ pap1 r).isEmpty then [knotD k] else pap1 l ++ pap1 r
def papS (room : Nat) (prev : Tr → List D) : Tr → List D
  | .nil => []
  | .node l k r => if (papS room prev l ++ papS room prev r).isEmpty then (if room ≤ (prev l ++ prev r).length then [partD k ((prev l ++ prev r).take room)] else []) else papS room prev l ++ papS room prev r
def pn (room : Nat) : Nat → Tr → List D
  | 0 => pap1
  | n + 1 => papS room (pn room n)
theorem pn_nil (room : Nat) : ∀ n, pn room n .nil = []
  | 0 => rfl
  | _ + 1 => rfl
def own (room n : Nat) (l : Tr) (k : Int) (r : Tr) : List D := match n with
  | 0 => [knotD k]
  | n + 1 => if room ≤ (pn room n l ++ pn room n r).length then [partD k ((pn room n l ++ pn room n r).take room)] else []
theorem pn_node (room n : Nat) (l : Tr) (k : Int) (r : Tr) : pn room n (.node l k r) = if (pn room n l ++ pn room n r).isEmpty then own room n l k r else pn room n l ++ pn room n r := by
  cases n <;> rfl
def ln (room n : Nat) (t : Tr) : Nat := (pn room n t).length
theorem own_len (room n : Nat) (l : Tr) (k : Int) (r : Tr) : (own room n l k r).length ≤ 1 := by
  cases n with
  | zero => exact Nat.le_refl _
  | succ n => unfold own; dsimp only; split <;> simp
theorem ln_node (room n : Nat) (l : Tr) (k : Int) (r : Tr) : ln room n (.node l k r) = if ln room n l + ln room n r = 0 then (own room n l k r).length else ln room n l + ln room n r := by
  unfold ln
  rw [pn_node]
  by_cases h : (pn room n l ++ pn room n r).isEmpty = true
  · rw [if_pos h, if_pos]
    have := List.isEmpty_iff.mp h
    rw [← List.length_append, this]; rfl
  · rw [if_neg h, if_neg, List.length_append]
    intro z
    exact h (List.isEmpty_iff.mpr (List.eq_nil_of_length_eq_zero (by rw [List.length_append]; exact z)))
theorem ln_size (room n : Nat) : ∀ t : Tr, ln room n t ≤ t.size
  | .nil => by unfold ln; rw [pn_nil]; exact Nat.le_refl _
  | .node l k r => by
    have h1 := ln_size room n l
    have h2 := ln_size room n r
    have h3 := own_len room n l k r
    rw [ln_node, Tr.size]
    split <;> omega
theorem own_is (room n : Nat) (l : Tr) (k : Int) (r : Tr) : (own room (n + 1) l k r).length = if room ≤ ln room n l + ln room n r then 1 else 0 := by
  unfold own ln
  dsimp only
  rw [List.length_append]
  split <;> rfl
theorem ln_anti {room : Nat} (hr : 1 ≤ room) (n : Nat) : ∀ t : Tr, ln room (n + 1) t ≤ ln room n t
  | .nil => by unfold ln; rw [pn_nil]; exact Nat.zero_le _
  | .node l k r => by
    have h1 := ln_anti hr n l
    have h2 := ln_anti hr n r
    have h3 := own_is room n l k r
    rw [ln_node, ln_node, h3]
    by_cases c : ln room (n + 1) l + ln room (n + 1) r = 0
    · rw [if_pos c]
      by_cases c2 : room ≤ ln room n l + ln room n r
      · rw [if_pos c2, if_neg (by omega)]; omega
      · rw [if_neg c2]; exact Nat.zero_le _
    · rw [if_neg c, if_neg (by omega)]; omega
theorem ln_mono {room : Nat} (hr : 1 ≤ room) (t : Tr) {a : Nat} : ∀ {b : Nat}, a ≤ b → ln room b t ≤ ln room a t
  | 0, h => by rw [Nat.le_zero.mp h]; exact Nat.le_refl _
  | b + 1, h => by
    by_cases e : a = b + 1
    · rw [e]; exact Nat.le_refl _
    · have := ln_mono hr t (a := a) (b := b) (by omega)
      have := ln_anti hr b t
      omega
theorem ln_zero {room : Nat} (hr : 1 ≤ room) : ∀ (t : Tr) (n : Nat), t.ht ≤ n → ln room n t = 0
  | .nil, n, _ => by unfold ln; rw [pn_nil]; rfl
  | .node l k r, 0, h => by simp only [Tr.ht] at h; omega
  | .node l k r, n + 1, h => by
    simp only [Tr.ht] at h
    have h1 := ln_zero hr l n (by omega)
    have h2 := ln_zero hr r n (by omega)
    have h3 := ln_zero hr l (n + 1) (by omega)
    have h4 := ln_zero hr r (n + 1) (by omega)
    rw [ln_node, if_pos (by omega), own_is, if_neg (by omega)]
theorem ln_pos (room : Nat) : ∀ t : Tr, t ≠ .nil → 1 ≤ ln room 0 t
  | .nil, h => absurd rfl h
  | .node l k r, _ => by
    rw [ln_node]
    split
    · exact Nat.le_refl _
    · omega
def Kn (room : Nat) (f : Int → Int) : Tr → Prop
  | .nil => True
  | .node l k r => Kn room f l ∧ Kn room f r ∧ ∃ m : Nat, f k = (m : Int) + 1 ∧ (∀ j, j < m → room ≤ ln room j l + ln room j r) ∧ ln room m l + ln room m r < room
theorem Kn.congr {room : Nat} {f g : Int → Int} : ∀ {t : Tr}, Kn room f t → (∀ x ∈ t.keys, f x = g x) → Kn room g t
  | .nil, _, _ => trivial
  | .node l k r, ⟨h1, h2, m, h3, h4⟩, h => ⟨h1.congr fun x hx => h x (by simp [Tr.keys, hx]), h2.congr fun x hx => h x (by simp [Tr.keys, hx]), m, by rw [← h k (by simp [Tr.keys])]; exact h3, h4⟩
def ms (f : Int → Int) (n : Int) : Tr → Int
  | .nil => 0
  | .node l k r => if ms f n l + ms f n r < (if n ≤ f k then 1 else 0) then (if n ≤ f k then 1 else 0) else ms f n l + ms f n r
def Apart (t : Tr) (a b : Int) : Prop := a ∉ (at_ b t).keys ∧ b ∉ (at_ a t).keys
inductive Vals (R : D → Int → Prop) : List D → List Int → Prop where
  | nil : Vals R [] []
  | cons {d : D} {k : Int} {ds : List D} {ks : List Int} : R d k → Vals R ds ks → Vals R (d :: ds) (k :: ks)
theorem Vals.length {R : D → Int → Prop} {ds : List D} {ks : List Int} (h : Vals R ds ks) : ds.length = ks.length := by
  induction h with
  | nil => rfl
  | cons _ _ ih => rw [List.length_cons, List.length_cons, ih]
theorem Vals.append {R : D → Int → Prop} {ds es : List D} {ks js : List Int} (h : Vals R ds ks) (h' : Vals R es js) : Vals R (ds ++ es) (ks ++ js) := by
  induction h with
  | nil => exact h'
  | cons a _ ih => exact .cons a ih
theorem Vals.take {R : D → Int → Prop} {ds : List D} {ks : List Int} (h : Vals R ds ks) : ∀ n, Vals R (ds.take n) (ks.take n) := by
  induction h with
  | nil => intro n; rw [List.take_nil, List.take_nil]; exact .nil
  | cons a _ ih =>
    intro n
    cases n with
    | zero => exact .nil
    | succ n => exact .cons a (ih n)
def Val (room : Nat) (t : Tr) : Nat → D → Int → Prop
  | 0, d, k => d = knotD k ∧ k ∈ t.keys
  | n + 1, d, k => ∃ ds ks, d = partD k ds ∧ k ∈ t.keys ∧ ds.length = room ∧ Vals (Val room t n) ds ks ∧ (∀ c ∈ ks, c ≠ k ∧ c ∈ (at_ k t).keys) ∧ ks.Pairwise (Apart t)
theorem sub_at {t : Tr} (ho : t.ord none none) {l r : Tr} {k : Int} (h : at_ k t = .node l k r) {u : Tr} (hu : u = l ∨ u = r) (hn : u ≠ .nil) : at_ (top1 u) t = u := by
  cases u with
  | nil => exact absurd rfl hn
  | node x y z => exact at_in t none none ho k l r h x y z (by rcases hu with h | h; exact .inl h.symm; exact .inr h.symm)
theorem below_in {t : Tr} (ho : t.ord none none) : ∀ (u : Tr), (u ≠ .nil → at_ (top1 u) t = u) → ∀ c ∈ u.keys, ∀ x ∈ (at_ c t).keys, x ∈ u.keys
  | .nil, _, c, hc, _, _ => by simp [Tr.keys] at hc
  | .node l k r, ha, c, hc, x, hx => by
    have ha := ha (by intro z; cases z)
    have ha : at_ k t = .node l k r := ha
    simp only [Tr.keys, List.mem_append, List.mem_singleton] at hc ⊢
    rcases hc with (hc | hc) | hc
    · exact .inl (.inl (below_in ho l (fun hn => sub_at ho ha (.inl rfl) hn) c hc x hx))
    · rw [hc, ha] at hx
      simp only [Tr.keys, List.mem_append, List.mem_singleton] at hx
      exact hx
    · exact .inr (below_in ho r (fun hn => sub_at ho ha (.inr rfl) hn) c hc x hx)
theorem apart_lr {t : Tr} (ho : t.ord none none) {l r : Tr} {k : Int} (ha : at_ k t = .node l k r) {a b : Int} (h1 : a ∈ l.keys) (h2 : b ∈ r.keys) : Apart t a b := by
  obtain ⟨lo, hi, hord⟩ := at_ord k t none none ho
  rw [ha] at hord
  have ol : ∀ x ∈ l.keys, x < k := fun x hx => ord_l hord hx
  have orr : ∀ x ∈ r.keys, k < x := fun x hx => ord_r hord hx
  refine ⟨fun z => ?_, fun z => ?_⟩
  · have := below_in ho r (fun hn => sub_at ho ha (.inr rfl) hn) b h2 a z
    have := orr a this
    have := ol a h1
    omega
  · have := below_in ho l (fun hn => sub_at ho ha (.inl rfl) hn) a h1 b z
    have := ol b this
    have := orr b h2
    omega
def PnV (room : Nat) (t : Tr) (n : Nat) (ds : List D) (u : Tr) : Prop := ∃ ks, Vals (Val room t n) ds ks ∧ (∀ c ∈ ks, c ∈ u.keys) ∧ ks.Pairwise (Apart t)
theorem PnV.both {t : Tr} (ho : t.ord none none) {room n : Nat} {l r : Tr} {k : Int} (ha : at_ k t = .node l k r) {ds es : List D} (h1 : PnV room t n ds l) (h2 : PnV room t n es r) : ∃ ks, Vals (Val room t n) (ds ++ es) ks ∧ (∀ c ∈ ks, c ∈ l.keys ∨ c ∈ r.keys) ∧ ks.Pairwise (Apart t) := by
  obtain ⟨a, a1, a2, a3⟩ := h1
  obtain ⟨b, b1, b2, b3⟩ := h2
  refine ⟨a ++ b, a1.append b1, fun c hc => ?_, List.pairwise_append.mpr ⟨a3, b3, fun x hx y hy => apart_lr ho ha (a2 x hx) (b2 y hy)⟩⟩
  rcases List.mem_append.mp hc with z | z
  · exact .inl (a2 c z)
  · exact .inr (b2 c z)
theorem pn_val {t : Tr} (ho : t.ord none none) (room : Nat) : ∀ (n : Nat) (u : Tr), (u ≠ .nil → at_ (top1 u) t = u) → PnV room t n (pn room n u) u := by
  intro n
  induction n with
  | zero =>
    intro u
    induction u with
    | nil => intro _; exact ⟨[], .nil, (fun c hc => nomatch hc), .nil⟩
    | node l k r il ir =>
      intro ha
      have ha : at_ k t = .node l k r := ha (by intro z; cases z)
      have hk : k ∈ t.keys := at_mem (by rw [ha]; intro z; cases z)
      obtain ⟨ks, h1, h2, h3⟩ := PnV.both ho ha (il fun hn => sub_at ho ha (.inl rfl) hn) (ir fun hn => sub_at ho ha (.inr rfl) hn)
      rw [pn_node]
      split
      · exact ⟨[k], .cons ⟨rfl, hk⟩ .nil, fun c hc => by rw [List.mem_singleton] at hc; rw [hc]; simp [Tr.keys], by simp⟩
      · exact ⟨ks, h1, fun c hc => by rcases h2 c hc with z | z <;> simp [Tr.keys, z], h3⟩
  | succ n ihn =>
    intro u
    induction u with
    | nil => intro _; exact ⟨[], .nil, (fun c hc => nomatch hc), .nil⟩
    | node l k r il ir =>
      intro ha
      have ha : at_ k t = .node l k r := ha (by intro z; cases z)
      have hk : k ∈ t.keys := at_mem (by rw [ha]; intro z; cases z)
      obtain ⟨ks, h1, h2, h3⟩ := PnV.both ho ha (il fun hn => sub_at ho ha (.inl rfl) hn) (ir fun hn => sub_at ho ha (.inr rfl) hn)
      obtain ⟨js, j1, j2, j3⟩ := PnV.both ho ha (ihn l fun hn => sub_at ho ha (.inl rfl) hn) (ihn r fun hn => sub_at ho ha (.inr rfl) hn)
      obtain ⟨lo, hi, hord⟩ := at_ord k t none none ho
      rw [ha] at hord
      rw [pn_node]
      split
      · unfold own
        dsimp only
        split
        · rename_i c
          refine ⟨[k], .cons ⟨_, js.take room, rfl, hk, by rw [List.length_take]; omega, j1.take room, fun x hx => ?_, j3.sublist (List.take_sublist _ _)⟩ .nil, fun c hc => by rw [List.mem_singleton] at hc; rw [hc]; simp [Tr.keys], by simp⟩
          have hxm := List.mem_of_mem_take hx
          rw [ha]
          rcases j2 x hxm with z | z
          · have := ord_l hord z
            exact ⟨by omega, by simp [Tr.keys, z]⟩
          · have := ord_r hord z
            exact ⟨by omega, by simp [Tr.keys, z]⟩
        · exact ⟨[], .nil, (fun c hc => nomatch hc), .nil⟩
      · exact ⟨ks, h1, fun c hc => by rcases h2 c hc with z | z <;> simp [Tr.keys, z], h3⟩
end K57B
namespace L3
open PySem PySem.Spec PyProof.Rows L2
section
variable {X : Cx}
end
section
variable {prog : Program} {w : World} {A : Around} {E : Value → Shared → Prop} {s : Shared}
def TAt (h : Heap) (i l : Addr) (xs : Array Value) (k : Nat) : Prop := h.IsTupleIter i l k ∧ h.IsTuple l xs
theorem TAt.but {h h' : Heap} {i l b : Addr} {xs : Array Value} {k : Nat} (x : TAt h i l xs k) (e : Heap.ExtBut b h h') (h1 : i ≠ b) (h2 : l ≠ b) : TAt h' i l xs k := ⟨x.1.extBut e h1, x.2.extBut e h2⟩
end
end L3
namespace L3
open PySem PySem.Spec PyProof.Rows L2
section
variable {prog : Program} {w : World} {A : Around} {E : Value → Shared → Prop} {s : Shared}
end
end L3
namespace L3
open PySem PySem.Spec PyProof.Rows L2
section
variable {X : Cx}
end
end L3
namespace L3
open PySem PySem.Spec PyProof.Rows L2
section
variable {X : Cx}
end
end L3
namespace L3
open PySem PySem.Spec PyProof.Rows L2
section
variable {X : Cx}
end
end L3
namespace K57B
open PySem L2 L3 K57
def LAt (H : Hp) (kvs : List (Key × V)) (f : Int → List D) (x : Int) : Prop := ∃ b ws, valV kvs (Sum.inl x : Key) = some (.ref b) ∧ H b = some (.lst ws) ∧ Reps H ws (f x)
theorem LAt.mono {H H' : Hp} {kvs : List (Key × V)} {f : Int → List D} {x : Int} (h : LAt H kvs f x) (s : Same H H') : LAt H' kvs f x := by
  obtain ⟨b, ws, h1, h2, h3⟩ := h
  exact ⟨b, ws, h1, s _ _ h2, h3.mono s⟩
theorem dget {H : Hp} {d : Addr} {kvs : List (Key × V)} {k : Int} {v : V} (e : H d = some (.dK kvs)) (h : valV kvs (Sum.inl k : Key) = some v) : DGet H d (.int k) (some v) := by
  have := DGet.k (k := (Sum.inl k : Key)) e
  rw [h] at this
  exact this
def spGather : Sp := fun vs H Q _ => ∃ (d c : Addr) (kvs : List (Key × V)) (ks : List Int) (f : Int → List D), vs = [.ref d, .ref c] ∧ H d = some (.dK kvs) ∧ H c = some (.lst (ks.map V.int)) ∧ ks.length ≤ 2 ∧ (∀ k ∈ ks, LAt H kvs f k ∧ (f k).length ≤ 60) ∧
  ∀ r H' ws, H r = none → Same H H' → H' r = some (.lst ws) → Reps H' ws (ks.flatMap f) → Q (.ref r) H'
def spMade : Sp := fun vs H Q _ => ∃ (k : Int) (room : Nat) (a : Addr) (ws : List V) (ds : List D), vs = [.int k, .int (room : Int), .ref a] ∧ H a = some (.lst ws) ∧ Reps H ws ds ∧ ds.length ≤ 120 ∧
  ∀ r H' ws', H r = none → Same H H' → H' r = some (.lst ws') → Reps H' ws' (if room ≤ ds.length then [partD k (ds.take room)] else []) → Q (.ref r) H'
theorem reps_takeD {H : Hp} : ∀ {ws : List V} {ds : List D} (n : Nat), Reps H ws ds → Reps H (ws.take n) (ds.take n)
  | _, _, 0, _ => by rw [List.take_zero, List.take_zero]; exact .nil
  | _, _, n + 1, .nil => .nil
  | _, _, n + 1, .cons h r => .cons h (reps_takeD n r)
section
variable {P : Program} {w : World} {K : PySem.W.Frag} {mg : Str → Option Value} {base : Heap}
theorem ok_gather {f : Addr} (F : Fd K mg "gathered" s_gathered f) (T : Tx K mg) : Cal P w K mg base CX0 1 "gathered" spGather := by
  refine F.cal sc_gathered (fun _ _ _ _ _ _ us hl => match us, hl with | [_, _], _ => rfl) (fun vs H Q E h => ?_) (fun cdv A outer s H vs Q E hr h => ?_)
  · obtain ⟨d, c, kvs, ks, f, rfl, _⟩ := h; rfl
  · obtain ⟨d, c, kvs, ks, f, rfl, ed, ec, hk2, hat, q⟩ := h
    refine ⟨_, (bcons (sset (i := 2) sc_gathered.nd rfl (by first | exact Or.inl rfl | exact Or.inr rfl) (qlst qnil))
      (bcons (sfor PassesOwn.never rfl (iseq K (qv 1)) (gname (i := 3) sc_gathered.nd rfl (by first | exact Or.inl rfl | exact Or.inr rfl))
        (bone (sexpr (qBm K PySem.F.plainAttrs_list PySem.F.slot_list_extend PySem.F.type_list_extend mExtend (qv 2) (qcons (qdget hr (qv 0) (qv 3) (fun _ _ => rfl)) qnil)))))
      (bone (sret (qv 2))))), ?_⟩
    refine ⟨(show 0 ≤ sizeLine by decide), fun l1 H1 n1 s1 e1 _ => ?_⟩
    have fl : ∀ n, (((ks.take n).flatMap f).length) ≤ 60 * (ks.take n).length := fun n => by
      have : ∀ xs : List Int, (∀ k ∈ xs, (f k).length ≤ 60) → (xs.flatMap f).length ≤ 60 * xs.length := fun xs h => by
        induction xs with
        | nil => exact Nat.le_refl _
        | cons x xs ih =>
          have h1 := ih fun k hk => h k (.tail _ hk)
          have h2 := h x (.head _)
          rw [List.flatMap_cons, List.length_append, List.length_cons]; omega
      exact this _ fun k hk => (hat k (List.mem_of_mem_take hk)).2
    refine ⟨_, rfl, c, rfl, .inl ⟨⟨_, SqL.of (s1 _ _ ec)⟩, for_list (xs := ks.map V.int) (fun i σ H' => ∃ z ws, σ = [some (.ref d), some (.ref c), some (.ref l1), z] ∧ Same H H' ∧ H' l1 = some (.lst ws) ∧ Reps H ws ((ks.take i).flatMap f))
      ⟨none, [], rfl, s1, e1, .nil⟩ (fun i σ H' _ ⟨_, _, _, s', _⟩ => SqL.of (s' _ _ ec)) ?_ ?_⟩⟩
    · rintro i y σ H2 hy ⟨z, ws, rfl, s2, e2, g2⟩
      rw [List.getElem?_map] at hy
      obtain ⟨k, hk, rfl⟩ := Option.map_eq_some_iff.mp hy
      obtain ⟨⟨b, wb, h1, h2, h3⟩, h4⟩ := hat k (List.mem_of_getElem? hk)
      have hw := g2.length
      have hwb := h3.length
      have hfl := fl i
      rw [List.length_take] at hfl
      refine ⟨_, rfl, .inl ⟨rfl, _, SqL.of e2⟩, _, rfl, _, rfl, d, .ref b, rfl, dget (s2 _ _ ed) h1, l1, b, _, _, rfl, rfl, e2, s2 _ _ h2, sizeBig' (by omega), ?_⟩
      refine ⟨_, _, rfl, same_upd s2 n1, upd_same, ?_⟩
      rw [List.take_add_one, hk, List.flatMap_append]
      have : Reps H wb ((some k).toList.flatMap f) := by simpa using h3
      exact g2.append this
    · rintro σ H2 ⟨z, ws, rfl, s2, e2, g2⟩
      rw [List.length_map, List.take_length] at g2
      exact ⟨_, rfl, q l1 H2 ws n1 s2 e2 (g2.mono s2)⟩
theorem ok_pmade {f : Addr} (F : Fd K mg "part_made" s_part_made f) (T : Tx K mg) : Cal P w K mg base CX0 1 "part_made" spMade := by
  refine F.cal sc_part_made (fun _ _ _ _ _ _ us hl => match us, hl with | [_, _, _], _ => rfl) (fun vs H Q E h => ?_) (fun cdv A outer s H vs Q E hr h => ?_)
  · obtain ⟨k, room, a, ws, ds, rfl, _⟩ := h; rfl
  · obtain ⟨k, room, a, ws, ds, rfl, ea, ga, hd, q⟩ := h
    have hw := ga.length
    refine ⟨_, (bone (sret (qif (tcmp rGe (qB (fLen K) rfl T.b_len bt_len (qcons (qv 2) qnil)) (qv 1) (nomark _)) (qlst (qcons (qtup (qcons qstr (qcons (qv 0) (qcons (qTy (fTuple K) rfl T.b_tuple bt_tuple (qcons (qslice (xSl K) (qv 2) onone (osome (qv 1))) qnil)) qnil)))) qnil)) (qlst qnil)))), ?_⟩
    refine ⟨_, rfl, a, _, rfl, .inl (SqL.of ea), _, rfl, _, _, rfl, rfl, _, rfl, ?_⟩
    by_cases c : room ≤ ds.length
    · rw [if_pos c] at q
      rw [decide_eq_true (by omega)]
      refine iteT ?_
      refine ⟨_, rfl, _, rfl, _, rfl, _, rfl, a, _, rfl, SqL.of ea, fun l1 H1 n1 s1 e1 _ => ?_⟩
      rw [cut_hi] at e1
      refine ⟨l1, _, rfl, .inl ⟨SqL.of e1, fun t2 H2 n2 s2 e2 _ => ?_⟩⟩
      refine ⟨(show 3 ≤ sizeLine by decide), fun t3 H3 n3 s3 e3 _ => ?_⟩
      refine ⟨(show 1 ≤ sizeLine by decide), fun l4 H4 n4 s4 e4 _ => ?_⟩
      have s14 := (s1.trans s2).trans (s3.trans s4)
      refine q l4 H4 _ (((s1.trans s2).trans s3).free n4) s14 e4 (.cons ?_ .nil)
      exact .tup (s4 _ _ e3) (.cons (.str _) (.cons (.int _) (.cons (.tup (s4 _ _ (s3 _ _ e2)) (reps_takeD room (ga.mono s14))) .nil)))
    · rw [if_neg c] at q
      rw [decide_eq_false (by omega)]
      refine iteF ?_
      exact ⟨(show 0 ≤ sizeLine by decide), fun l1 H1 n1 s1 e1 _ => q l1 H1 [] n1 s1 e1 .nil⟩
end
end K57B
namespace K57B
open PySem L2 L3 K57
def F (room n : Nat) (t : Tr) : Int → List D := fun x => pn room n (at_ x t)
def AllL (H : Hp) (d : Addr) (room n : Nat) (t : Tr) : Prop := ∃ kvs, H d = some (.dK kvs) ∧ ∀ x ∈ t.keys, LAt H kvs (F room n t) x
theorem AllL.mono {H H' : Hp} {d : Addr} {room n : Nat} {t : Tr} (h : AllL H d room n t) (s : Same H H') : AllL H' d room n t := by
  obtain ⟨kvs, h1, h2⟩ := h
  exact ⟨kvs, s _ _ h1, fun x hx => (h2 x hx).mono s⟩
def spKp : Sp := fun vs H Q _ => ∃ (v : V) (t : Tr) (room : Nat), vs = [v] ∧ Rep H v t.d ∧ t.ord none none ∧ t.ht < 80 ∧ t.size ≤ 60 ∧ ∀ d H', H d = none → Same H H' → AllL H' d room 0 t → Q (.ref d) H'
def spPp : Sp := fun vs H Q _ => ∃ (v : V) (t : Tr) (room n : Nat) (dp : Addr), vs = [v, .int (room : Int), .ref dp] ∧ Rep H v t.d ∧ t.ord none none ∧ t.ht < 80 ∧ t.size ≤ 60 ∧ AllL H dp room n t ∧ ∀ d H', H d = none → Same H H' → AllL H' d room (n + 1) t → Q (.ref d) H'
theorem F_len (room n : Nat) (t : Tr) (x : Int) : (F room n t x).length ≤ t.size := by
  have h1 := ln_size room n (at_ x t)
  have h2 := (at_size x t).1
  unfold F
  unfold ln at h1
  omega
theorem row_F {room n : Nat} {t : Tr} (ho : t.ord none none) {e : Int × List Int} (he : e ∈ t.wk) : ∃ l r, at_ e.1 t = .node l e.1 r ∧ e.2 = l.key? ++ r.key? ∧ e.2.flatMap (F room n t) = pn room n l ++ pn room n r := by
  obtain ⟨l, r, h1, h2⟩ := wk_at t none none ho e he
  refine ⟨l, r, h1, h2, ?_⟩
  have kid : ∀ u : Tr, (u = l ∨ u = r) → u.key?.flatMap (F room n t) = pn room n u := fun u hu => by
    cases u with
    | nil => rw [pn_nil]; rfl
    | node a b c =>
      have := sub_at ho h1 hu (by intro z; cases z)
      have this : at_ b t = .node a b c := this
      show [b].flatMap (F room n t) = _
      unfold F
      rw [List.flatMap_singleton, this]
  rw [h2, List.flatMap_append, kid l (.inl rfl), kid r (.inr rfl)]
theorem LAt.off {H : Hp} {d : Addr} {xs kvs : List (Key × V)} {f : Int → List D} {x : Int} (hd : H d = some (.dK xs)) (hp : pures (f x) = true) (h : LAt H kvs f x) : LAt (rm d H) kvs f x := by
  obtain ⟨b, ws, h1, h2, h3⟩ := h
  exact ⟨b, ws, h1, by rw [rm_ne (fun z => by rw [z, hd] at h2; cases h2)]; exact h2, Reps.apart hd h3 hp⟩
theorem pures_app : ∀ (a b : List D), pures (a ++ b) = (pures a && pures b)
  | [], b => by rw [List.nil_append, pures, Bool.true_and]
  | x :: a, b => by rw [List.cons_append, pures, pures, pures_app a b, Bool.and_assoc]
theorem pures_take : ∀ (n : Nat) (a : List D), pures a = true → pures (a.take n) = true
  | 0, _, _ => rfl
  | n + 1, [], _ => rfl
  | n + 1, x :: a, h => by
    rw [pures, Bool.and_eq_true] at h
    rw [List.take_succ_cons, pures, h.1, pures_take n a h.2]; rfl
theorem pn_pure (room : Nat) : ∀ (n : Nat) (t : Tr), pures (pn room n t) = true := by
  intro n
  induction n with
  | zero =>
    intro t
    induction t with
    | nil => rfl
    | node l k r il ir =>
      rw [pn_node]
      split
      · rfl
      · rw [pures_app, il, ir]; rfl
  | succ n ih =>
    intro t
    induction t with
    | nil => rfl
    | node l k r il ir =>
      rw [pn_node]
      split
      · unfold own
        dsimp only
        split
        · have h1 : pures ((pn room n l ++ pn room n r).take room) = true := pures_take _ _ (by rw [pures_app, ih l, ih r]; rfl)
          show pures [D.tup [.str "part", .int k, .tup ((pn room n l ++ pn room n r).take room)]] = true
          rw [pures, pures, D.pure, pures, pures, pures, D.pure, h1]; rfl
        · rfl
      · rw [pures_app, il, ir]; rfl
section
variable {P : Program} {w : World} {K : PySem.W.Frag} {mg : Str → Option Value} {base : Heap}
theorem ok_kp {f : Addr} (F0 : Fd K mg "knot_papers" s_knot_papers f) (T : Tx K mg) (C_with_kids : Cal P w K mg base CX0 80 "with_kids" (spWk 80)) (C_gathered : Cal P w K mg base CX0 1 "gathered" spGather) : Cal P w K mg base CX0 82 "knot_papers" spKp := by
  have F := F0
  refine F.cal sc_knot_papers (fun _ _ _ _ _ _ us hl => match us, hl with | [_], _ => rfl) (fun vs H Q E h => ?_) (fun cdv A outer s H vs Q E hr h => ?_)
  · obtain ⟨v, t, room, rfl, _⟩ := h; rfl
  · obtain ⟨v, t, room, rfl, hv, ho, hht, hz, q⟩ := h
    refine ⟨_, (bcons (sset (i := 1) sc_knot_papers.nd rfl (by first | exact Or.inl rfl | exact Or.inr rfl) qdict)
      (bcons (sfor PassesOwn.never rfl (iseq K (qF C_with_kids (hr.mono (by omega)) pass0 rfl (qcons (qv 0) qnil))) (gtup (n := 2) K rfl (gscons (gname (i := 2) sc_knot_papers.nd rfl (by first | exact Or.inl rfl | exact Or.inr rfl)) (gscons (gname (i := 3) sc_knot_papers.nd rfl (by first | exact Or.inl rfl | exact Or.inr rfl)) gsnil)))
        (bone (sdput hr (qv 1) (qv 2) (qor K (qF C_gathered (hr.mono (by omega)) pass0 rfl (qcons (qv 1) (qcons (qv 3) qnil))) (qone (qlst (qcons (qtup (qcons qstr (qcons (qv 2) qnil))) qnil)))) rfl)))
      (bone (sret (qv 1))))), ?_⟩
    refine fun d H1 n1 s1 e1 _ => ?_
    refine ⟨_, rfl, v, t, rfl, hv.mono s1, hht, by omega, fun r2 H2 ws n2 s2 e2 x2 g2 => ?_⟩
    have gB : Reps (rm d H2) ws (t.wk.map kidD) := x2 d _ e1
    have ed2 := s2 _ _ e1
    have hrd : r2 ≠ d := fun z => by rw [z, e1] at n2; cases n2
    have eB : rm d H2 r2 = some (.lst ws) := by rw [rm_ne hrd]; exact e2
    have hws := g2.length
    rw [List.length_map, Tr.wk_length] at hws
    have sHB : Same H (rm d H2) := rm_of (s1.trans s2) n1
    refine ⟨r2, rfl, .inl ⟨⟨_, SqL.of e2⟩, for_list (xs := ws) (fun i σ H' => ∃ z2 z3 kvs, σ = [some v, some (.ref d), z2, z3] ∧ Same (rm d H2) H' ∧ H' d = some (.dK kvs) ∧ kvs.length ≤ i ∧ ∀ x ∈ (t.wk.take i).map (·.1), LAt (rm d H') kvs (K57B.F room 0 t) x)
      ⟨none, none, [], rfl, rm_same, ed2, Nat.le_refl _, (fun x hx => nomatch hx)⟩ (fun i σ H' _ ⟨_, _, _, _, s', _⟩ => SqL.of (s' _ _ eB)) ?_ ?_⟩⟩
    · rintro i y σ H3 hy ⟨z2, z3, kvs, rfl, s3, ed3, hkl, hat⟩
      have hil := (List.getElem?_eq_some_iff.mp hy).1
      obtain ⟨e, he, ge⟩ := reps_map gB hy
      obtain ⟨b, c, rfl, eb, ec⟩ := rep_kid ge
      have hem := List.mem_of_getElem? he
      obtain ⟨l, r, ha, hks, hfm⟩ := row_F (room := room) (n := 0) ho hem
      refine ⟨b, _, rfl, SqT.of (s3 _ _ eb), rfl, _, _, rfl, _, _, rfl, rfl, ?_⟩
      refine ⟨_, rfl, _, rfl, d, c, kvs, e.2, K57B.F room 0 t, rfl, ed3, s3 _ _ ec, ?_, fun k hk => ⟨(hat k (wk_pre t i e he k hk)).mono rm_same, by have := F_len room 0 t k; omega⟩, fun r4 H4 w4 n4 s4 e4 g4 => ?_⟩
      · have h1 := key_short l
        have h2 := key_short r
        rw [hks, List.length_append]; omega
      rw [hfm] at g4
      have hw4 := g4.length
      have done : ∀ (bv : Addr) (H5 : Hp) (wv : List V), Same H4 H5 → H5 bv = some (.lst wv) → bv ≠ d → Reps (rm d H5) wv (pn room 0 (.node l e.1 r)) → ∃ z2 z3 kvs', [some v, some (.ref d), some (.int e.1), some (.ref c)] = [some v, some (.ref d), z2, z3] ∧ Same (rm d H2) (upd H5 d (.dK (putK kvs (Sum.inl e.1 : Key) (.ref bv)))) ∧ upd H5 d (.dK (putK kvs (Sum.inl e.1 : Key) (.ref bv))) d = some (.dK kvs') ∧ kvs'.length ≤ i + 1 ∧ ∀ x ∈ (t.wk.take (i + 1)).map (·.1), LAt (rm d (upd H5 d (.dK (putK kvs (Sum.inl e.1 : Key) (.ref bv))))) kvs' (K57B.F room 0 t) x := fun bv H5 wv s45 ev hbd gv => by
        have hlp := length_putK kvs (Sum.inl e.1 : Key) (V.ref bv)
        have hrm : Same (rm d H5) (rm d (upd H5 d (.dK (putK kvs (Sum.inl e.1 : Key) (.ref bv))))) := fun x o hx => by
          have hxd : x ≠ d := fun z => by rw [z, rm_self] at hx; cases hx
          rw [rm_ne hxd] at hx ⊢
          rw [upd_ne hxd]; exact hx
        refine ⟨_, _, _, rfl, same_upd ((s3.trans s4).trans s45) rm_self, upd_same, by omega, fun x hx => ?_⟩
        by_cases hxe : x = e.1
        · rw [hxe]
          refine ⟨bv, wv, by rw [valV_put, if_pos rfl], hrm _ _ (by rw [rm_ne hbd]; exact ev), ?_⟩
          unfold K57B.F
          rw [ha]
          exact gv.mono hrm
        · have hx' : x ∈ (t.wk.take i).map (·.1) := by
            rw [List.take_add_one, he, List.map_append] at hx
            rcases List.mem_append.mp hx with z | z
            · exact z
            · exact absurd (by simpa using z) hxe
          obtain ⟨b', w', q1, q2, q3⟩ := hat x hx'
          refine LAt.mono (H := rm d H3) ⟨b', w', ?_, q2, q3⟩ ((rm_of' (s4.trans s45)).trans hrm)
          rw [valV_put, if_neg (fun z => hxe (Sum.inl.inj z))]
          exact q1
      have ed4 := s4 _ _ ed3
      have hr4d : r4 ≠ d := fun z => by rw [z, ed3] at n4; cases n4
      refine ⟨!w4.isEmpty, .inl ⟨w4, SqL.of e4, rfl⟩, ?_⟩
      by_cases hem4 : w4 = []
      · have hp0 : (pn room 0 l ++ pn room 0 r).isEmpty = true := List.isEmpty_iff.mpr (List.eq_nil_of_length_eq_zero (by rw [← hw4, hem4]; rfl))
        rw [hem4]
        refine iteF ?_
        refine ⟨_, rfl, (show 2 ≤ sizeLine by decide), fun t5 H5 n5 s5 e5 _ => ?_⟩
        refine ⟨(show 1 ≤ sizeLine by decide), fun l6 H6 n6 s6 e6 _ => ?_⟩
        have s46 := s5.trans s6
        have h6d : l6 ≠ d := fun z => by rw [z, s5 _ _ ed4] at n6; cases n6
        have h5d : t5 ≠ d := fun z => by rw [z, ed4] at n5; cases n5
        refine ⟨_, rfl, _, rfl, d, _, rfl, DPut.k (k := (Sum.inl e.1 : Key)) (s46 _ _ ed4) (sizeBig (by omega)), ?_⟩
        refine done l6 H6 _ s46 e6 h6d ?_
        rw [pn_node, if_pos hp0]
        exact .cons (.tup (by rw [rm_ne h5d]; exact s6 _ _ e5) (.cons (.str _) (.cons (.int _) .nil))) .nil
      · have hp0 : ¬ (pn room 0 l ++ pn room 0 r).isEmpty = true := fun z => hem4 (List.eq_nil_of_length_eq_zero (by rw [hw4, List.isEmpty_iff.mp z]; rfl))
        have hie : (!w4.isEmpty) = true := by
          cases w4 with
          | nil => exact absurd rfl hem4
          | cons => rfl
        rw [hie]
        refine iteT ?_
        refine ⟨_, rfl, _, rfl, d, _, rfl, DPut.k (k := (Sum.inl e.1 : Key)) ed4 (sizeBig (by omega)), ?_⟩
        refine done r4 H4 _ (Same.refl _) e4 hr4d ?_
        rw [pn_node, if_neg hp0]
        exact Reps.apart ed4 g4 (by rw [pures_app, pn_pure, pn_pure]; rfl)
    · rintro σ H3 ⟨z2, z3, kvs, rfl, s3, ed3, hkl, hat⟩
      refine ⟨_, rfl, q d H3 n1 (sHB.trans s3) ⟨kvs, ed3, fun x hx => (hat x ?_).mono rm_same⟩⟩
      rw [hws, ← Tr.wk_length t, List.take_length]
      exact (wk_keys t x).mpr hx
end
end K57B
namespace K57B
open PySem L2 L3 K57
def spFb : Sp := fun vs H Q _ => ∃ (v : V) (t : Tr) (room : Nat), vs = [v, .int (room : Int)] ∧ Rep H v t.d ∧ t ≠ .nil ∧ t.ord none none ∧ t.ht < 80 ∧ t.size ≤ 60 ∧ 1 ≤ room ∧ room ≤ 100 ∧ ∀ (y : V) (H' : Hp) (n : Nat) (p : D) (ps : List D), Same H H' → pn room n t = p :: ps → pn room (n + 1) t = [] → Rep H' y p → Q y H'
section
variable {P : Program} {w : World} {K : PySem.W.Frag} {mg : Str → Option Value} {base : Heap}
theorem ok_pp {f : Addr} (F0 : Fd K mg "part_papers" s_part_papers f) (T : Tx K mg) (C_with_kids : Cal P w K mg base CX0 80 "with_kids" (spWk 80)) (C_gathered : Cal P w K mg base CX0 1 "gathered" spGather) (C_part_made : Cal P w K mg base CX0 1 "part_made" spMade) : Cal P w K mg base CX0 82 "part_papers" spPp := by
  have F := F0
  refine F.cal sc_part_papers (fun _ _ _ _ _ _ us hl => match us, hl with | [_, _, _], _ => rfl) (fun vs H Q E h => ?_) (fun cdv A outer s H vs Q E hr h => ?_)
  · obtain ⟨v, t, room, n, dp, rfl, _⟩ := h; rfl
  · obtain ⟨v, t, room, n, dp, rfl, hv, ho, hht, hz, hdp, q⟩ := h
    refine ⟨_, (bcons (sset (i := 3) sc_part_papers.nd rfl (by first | exact Or.inl rfl | exact Or.inr rfl) qdict)
      (bcons (sfor PassesOwn.never rfl (iseq K (qF C_with_kids (hr.mono (by omega)) pass0 rfl (qcons (qv 0) qnil))) (gtup (n := 2) K rfl (gscons (gname (i := 4) sc_part_papers.nd rfl (by first | exact Or.inl rfl | exact Or.inr rfl)) (gscons (gname (i := 5) sc_part_papers.nd rfl (by first | exact Or.inl rfl | exact Or.inr rfl)) gsnil)))
        (bone (sdput hr (qv 3) (qv 4) (qor K (qF C_gathered (hr.mono (by omega)) pass0 rfl (qcons (qv 3) (qcons (qv 5) qnil))) (qone (qF C_part_made (hr.mono (by omega)) pass0 rfl (qcons (qv 4) (qcons (qv 1) (qcons (qF C_gathered (hr.mono (by omega)) pass0 rfl (qcons (qv 2) (qcons (qv 5) qnil))) qnil)))))) rfl)))
      (bone (sret (qv 3))))), ?_⟩
    refine fun d H1 n1 s1 e1 _ => ?_
    refine ⟨_, rfl, v, t, rfl, hv.mono s1, hht, by omega, fun r2 H2 ws n2 s2 e2 x2 g2 => ?_⟩
    have gB : Reps (rm d H2) ws (t.wk.map kidD) := x2 d _ e1
    have ed2 := s2 _ _ e1
    have hrd : r2 ≠ d := fun z => by rw [z, e1] at n2; cases n2
    have eB : rm d H2 r2 = some (.lst ws) := by rw [rm_ne hrd]; exact e2
    have hws := g2.length
    rw [List.length_map, Tr.wk_length] at hws
    have sHB : Same H (rm d H2) := rm_of (s1.trans s2) n1
    refine ⟨r2, rfl, .inl ⟨⟨_, SqL.of e2⟩, for_list (xs := ws) (fun i σ H' => ∃ z2 z3 kvs, σ = [some v, some (.int (room : Int)), some (.ref dp), some (.ref d), z2, z3] ∧ Same (rm d H2) H' ∧ H' d = some (.dK kvs) ∧ kvs.length ≤ i ∧ ∀ x ∈ (t.wk.take i).map (·.1), LAt (rm d H') kvs (K57B.F room (n + 1) t) x)
      ⟨none, none, [], rfl, rm_same, ed2, Nat.le_refl _, (fun x hx => nomatch hx)⟩ (fun i σ H' _ ⟨_, _, _, _, s', _⟩ => SqL.of (s' _ _ eB)) ?_ ?_⟩⟩
    · rintro i y σ H3 hy ⟨z2, z3, kvs, rfl, s3, ed3, hkl, hat⟩
      have hil := (List.getElem?_eq_some_iff.mp hy).1
      obtain ⟨e, he, ge⟩ := reps_map gB hy
      obtain ⟨b, c, rfl, eb, ec⟩ := rep_kid ge
      have hem := List.mem_of_getElem? he
      obtain ⟨l, r, ha, hks, hfm⟩ := row_F (room := room) (n := n + 1) ho hem
      have hk2 : e.2.length ≤ 2 := by
        have h1 := key_short l
        have h2 := key_short r
        rw [hks, List.length_append]; omega
      refine ⟨b, _, rfl, SqT.of (s3 _ _ eb), rfl, _, _, rfl, _, _, rfl, rfl, ?_⟩
      refine ⟨_, rfl, _, rfl, d, c, kvs, e.2, K57B.F room (n + 1) t, rfl, ed3, s3 _ _ ec, ?_, fun k hk => ⟨(hat k (wk_pre t i e he k hk)).mono rm_same, by have := F_len room (n + 1) t k; omega⟩, fun r4 H4 w4 n4 s4 e4 g4 => ?_⟩
      · exact hk2
      rw [hfm] at g4
      have hw4 := g4.length
      have done : ∀ (bv : Addr) (H5 : Hp) (wv : List V), Same H4 H5 → H5 bv = some (.lst wv) → bv ≠ d → Reps (rm d H5) wv (pn room (n + 1) (.node l e.1 r)) → ∃ z2 z3 kvs', [some v, some (.int (room : Int)), some (.ref dp), some (.ref d), some (.int e.1), some (.ref c)] = [some v, some (.int (room : Int)), some (.ref dp), some (.ref d), z2, z3] ∧ Same (rm d H2) (upd H5 d (.dK (putK kvs (Sum.inl e.1 : Key) (.ref bv)))) ∧ upd H5 d (.dK (putK kvs (Sum.inl e.1 : Key) (.ref bv))) d = some (.dK kvs') ∧ kvs'.length ≤ i + 1 ∧ ∀ x ∈ (t.wk.take (i + 1)).map (·.1), LAt (rm d (upd H5 d (.dK (putK kvs (Sum.inl e.1 : Key) (.ref bv))))) kvs' (K57B.F room (n + 1) t) x := fun bv H5 wv s45 ev hbd gv => by
        have hlp := length_putK kvs (Sum.inl e.1 : Key) (V.ref bv)
        have hrm : Same (rm d H5) (rm d (upd H5 d (.dK (putK kvs (Sum.inl e.1 : Key) (.ref bv))))) := fun x o hx => by
          have hxd : x ≠ d := fun z => by rw [z, rm_self] at hx; cases hx
          rw [rm_ne hxd] at hx ⊢
          rw [upd_ne hxd]; exact hx
        refine ⟨_, _, _, rfl, same_upd ((s3.trans s4).trans s45) rm_self, upd_same, by omega, fun x hx => ?_⟩
        by_cases hxe : x = e.1
        · rw [hxe]
          refine ⟨bv, wv, by rw [valV_put, if_pos rfl], hrm _ _ (by rw [rm_ne hbd]; exact ev), ?_⟩
          unfold K57B.F
          rw [ha]
          exact gv.mono hrm
        · have hx' : x ∈ (t.wk.take i).map (·.1) := by
            rw [List.take_add_one, he, List.map_append] at hx
            rcases List.mem_append.mp hx with z | z
            · exact z
            · exact absurd (by simpa using z) hxe
          obtain ⟨b', w', q1, q2, q3⟩ := hat x hx'
          refine LAt.mono (H := rm d H3) ⟨b', w', ?_, q2, q3⟩ ((rm_of' (s4.trans s45)).trans hrm)
          rw [valV_put, if_neg (fun z => hxe (Sum.inl.inj z))]
          exact q1
      have ed4 := s4 _ _ ed3
      have hr4d : r4 ≠ d := fun z => by rw [z, ed3] at n4; cases n4
      refine ⟨!w4.isEmpty, .inl ⟨w4, SqL.of e4, rfl⟩, ?_⟩
      by_cases hem4 : w4 = []
      · have hp0 : (pn room (n + 1) l ++ pn room (n + 1) r).isEmpty = true := List.isEmpty_iff.mpr (List.eq_nil_of_length_eq_zero (by rw [← hw4, hem4]; rfl))
        rw [hem4]
        refine iteF ?_
        obtain ⟨l', r', ha', hks', hfm'⟩ := row_F (room := room) (n := n) ho hem
        rw [ha] at ha'
        cases ha'
        obtain ⟨kp, ep, hap⟩ := hdp
        have hpd : dp ≠ d := fun z => by rw [z, n1] at ep; cases ep
        have s04 : Same H H4 := (sHB.trans s3).trans s4
        refine ⟨_, rfl, _, rfl, _, rfl, _, rfl, dp, c, kp, e.2, K57B.F room n t, rfl, s04 _ _ ep, s4 _ _ (s3 _ _ ec), hk2, fun k hk => ⟨(hap k ?_).mono s04, by have := F_len room n t k; omega⟩, fun r5 H5 w5 n5 s5 e5 g5 => ?_⟩
        · have := wk_pre t i e he k hk
          exact (wk_keys t k).mp (List.mem_of_mem_take (by rw [← List.map_take]; exact this))
        rw [hfm'] at g5
        have hl5 := ln_size room n l
        have hl5' := ln_size room n r
        have hsz := (at_size e.1 t).1
        rw [ha, Tr.size] at hsz
        unfold ln at hl5 hl5'
        refine ⟨e.1, room, r5, w5, _, rfl, e5, g5, by rw [List.length_append]; omega, fun r6 H6 w6 n6 s6 e6 g6 => ?_⟩
        have s46 := s5.trans s6
        have h6d : r6 ≠ d := fun z => by rw [z, s5 _ _ ed4] at n6; cases n6
        refine ⟨_, rfl, _, rfl, d, _, rfl, DPut.k (k := (Sum.inl e.1 : Key)) (s46 _ _ ed4) (sizeBig (by omega)), ?_⟩
        refine done r6 H6 _ s46 e6 h6d ?_
        have hown : (if room ≤ (pn room n l ++ pn room n r).length then [partD e.1 ((pn room n l ++ pn room n r).take room)] else []) = pn room (n + 1) (.node l e.1 r) := by
          rw [pn_node, if_pos hp0]; rfl
        rw [hown] at g6
        exact Reps.apart (s46 _ _ ed4) g6 (pn_pure _ _ _)
      · have hp0 : ¬ (pn room (n + 1) l ++ pn room (n + 1) r).isEmpty = true := fun z => hem4 (List.eq_nil_of_length_eq_zero (by rw [hw4, List.isEmpty_iff.mp z]; rfl))
        have hie : (!w4.isEmpty) = true := by
          cases w4 with
          | nil => exact absurd rfl hem4
          | cons => rfl
        rw [hie]
        refine iteT ?_
        refine ⟨_, rfl, _, rfl, d, _, rfl, DPut.k (k := (Sum.inl e.1 : Key)) ed4 (sizeBig (by omega)), ?_⟩
        refine done r4 H4 _ (Same.refl _) e4 hr4d ?_
        rw [pn_node, if_neg hp0]
        exact Reps.apart ed4 g4 (by rw [pures_app, pn_pure, pn_pure]; rfl)
    · rintro σ H3 ⟨z2, z3, kvs, rfl, s3, ed3, hkl, hat⟩
      refine ⟨_, rfl, q d H3 n1 (sHB.trans s3) ⟨kvs, ed3, fun x hx => (hat x ?_).mono rm_same⟩⟩
      rw [hws, ← Tr.wk_length t, List.take_length]
      exact (wk_keys t x).mpr hx
theorem ok_fb {f : Addr} (F0 : Fd K mg "from_below" s_from_below f) (T : Tx K mg) (C_knot_papers : Cal P w K mg base CX0 82 "knot_papers" spKp) (C_part_papers : Cal P w K mg base CX0 82 "part_papers" spPp) : Cal P w K mg base CX0 84 "from_below" spFb := by
  have F := F0
  refine F.cal sc_from_below (fun _ _ _ _ _ _ us hl => match us, hl with | [_, _], _ => rfl) (fun vs H Q E h => ?_) (fun cdv A outer s H vs Q E hr h => ?_)
  · obtain ⟨v, t, room, rfl, _⟩ := h; rfl
  · obtain ⟨v, t, room, rfl, hv, hne, ho, hht, hz, hr1, hr2, q⟩ := h
    refine ⟨_, (bcons (sset (i := 2) sc_from_below.nd rfl (by first | exact Or.inl rfl | exact Or.inr rfl) (qix (xIx K) (qv 0) qint (fun _ _ => rfl)))
      (bcons (sset (i := 3) sc_from_below.nd rfl (by first | exact Or.inl rfl | exact Or.inr rfl) (qF C_knot_papers (hr.mono (by omega)) pass0 rfl (qcons (qv 0) qnil)))
      (bcons (sset (i := 4) sc_from_below.nd rfl (by first | exact Or.inl rfl | exact Or.inr rfl) (qF C_part_papers (hr.mono (by omega)) pass0 rfl (qcons (qv 0) (qcons (qv 1) (qcons (qv 3) qnil)))))
      (bcons (swhile PassesOwn.never (ttru K (qdget hr (qv 4) (qv 2) (fun _ _ => rfl)) (fun _ => rfl))
        (bcons (sset (i := 3) sc_from_below.nd rfl (by first | exact Or.inl rfl | exact Or.inr rfl) (qv 4))
        (bone (sset (i := 4) sc_from_below.nd rfl (by first | exact Or.inl rfl | exact Or.inr rfl) (qF C_part_papers (hr.mono (by omega)) pass0 rfl (qcons (qv 0) (qcons (qv 1) (qcons (qv 3) qnil))))))))
      (bone (sret (qix (xIx K) (qdget hr (qv 3) (qv 2) (fun _ _ => rfl)) qint (fun _ _ => rfl)))))))), ?_⟩
    obtain ⟨a, vl, vr, rfl, ea⟩ : ∃ a vl vr, v = .ref a ∧ H a = some (.tup [vl, .int (top1 t), vr]) := by
      cases t with
      | nil => exact absurd rfl hne
      | node l k r => obtain ⟨a, vl, vr, h1, h2, _⟩ := rep_node hv; exact ⟨a, vl, vr, h1, h2⟩
    have htop : top1 t ∈ t.keys ∧ at_ (top1 t) t = t := by
      cases t with
      | nil => exact absurd rfl hne
      | node l k r => exact ⟨by simp [top1, Tr.keys], at_self⟩
    refine ⟨_, rfl, a, _, 1, _, rfl, rfl, .inr (SqT.of ea), atI_nat (j := 1) rfl, ?_⟩
    refine ⟨_, rfl, .ref a, t, room, rfl, hv, ho, hht, hz, fun d1 H1 n1 s1 a1 => ?_⟩
    refine ⟨_, rfl, _, rfl, _, rfl, .ref a, t, room, 0, d1, rfl, hv.mono s1, ho, hht, hz, a1, fun d2 H2 n2 s2 a2 => ?_⟩
    refine ⟨fun m σ H' => ∃ (n : Nat) (dn dg : Addr), σ = [some (.ref a), some (.int (room : Int)), some (.int (top1 t)), some (.ref dn), some (.ref dg)] ∧ Same H H' ∧ AllL H' dn room n t ∧ AllL H' dg room (n + 1) t ∧ 1 ≤ ln room n t ∧ m = 80 - n ∧ n < 80, ⟨_, 0, d1, d2, rfl, s1.trans s2, a1.mono s2, a2, ln_pos room t hne, rfl, by omega⟩, ?_⟩
    rintro m σ H3 ⟨n, dn, dg, rfl, s3, an, ag, hp, rfl, hn80⟩
    obtain ⟨kg, eg, hg⟩ := ag
    obtain ⟨bg, wg, g1, g2, g3⟩ := hg (top1 t) htop.1
    have hFg : K57B.F room (n + 1) t (top1 t) = pn room (n + 1) t := by unfold K57B.F; rw [htop.2]
    rw [hFg] at g3
    have hwg := g3.length
    refine ⟨_, rfl, _, rfl, dg, .ref bg, rfl, dget eg g1, _, .inl ⟨wg, SqL.of g2, rfl⟩, ?_⟩
    by_cases hw : wg = []
    · rw [hw]
      have hz0 : pn room (n + 1) t = [] := List.eq_nil_of_length_eq_zero (by rw [← hwg, hw]; rfl)
      obtain ⟨kn, en, hn⟩ := an
      obtain ⟨bn, wn, h1, h2, h3⟩ := hn (top1 t) htop.1
      have hFn : K57B.F room n t (top1 t) = pn room n t := by unfold K57B.F; rw [htop.2]
      rw [hFn] at h3
      refine iteF ?_
      unfold ln at hp
      cases hpn : pn room n t with
      | nil => rw [hpn] at hp; simp at hp
      | cons p ps =>
        rw [hpn] at h3
        cases h3 with
        | cons r1 r2 =>
          refine ⟨_, rfl, _, rfl, dn, .ref bn, rfl, dget en h1, bn, _, 0, _, rfl, rfl, .inl (SqL.of h2), atI_nat (j := 0) rfl, ?_⟩
          exact q _ H3 n p ps s3 hpn hz0 r1
    · have hie : (!wg.isEmpty) = true := by
        cases wg with
        | nil => exact absurd rfl hw
        | cons => rfl
      rw [hie]
      refine iteT ?_
      have hp' : 1 ≤ ln room (n + 1) t := by
        unfold ln
        rw [← hwg]
        exact List.length_pos_iff.mpr hw
      have hnh : n + 1 < t.ht := Nat.lt_of_not_le fun z => by have := ln_zero hr1 t (n + 1) z; omega
      refine ⟨fun σ' H' => ∃ m', m' < 80 - n ∧ ∃ (n : Nat) (dn dg : Addr), σ' = [some (.ref a), some (.int (room : Int)), some (.int (top1 t)), some (.ref dn), some (.ref dg)] ∧ Same H H' ∧ AllL H' dn room n t ∧ AllL H' dg room (n + 1) t ∧ 1 ≤ ln room n t ∧ m' = 80 - n ∧ n < 80, fun _ _ z => z, ?_⟩
      refine ⟨_, rfl, ?_⟩
      refine ⟨_, rfl, _, rfl, _, rfl, .ref a, t, room, n + 1, dg, rfl, hv.mono s3, ho, hht, hz, ⟨kg, eg, hg⟩, fun d4 H4 n4 s4 a4 => ?_⟩
      exact ⟨_, by omega, n + 1, dg, d4, rfl, s3.trans s4, AllL.mono ⟨kg, eg, hg⟩ s4, a4, hp', rfl, by omega⟩
end
end K57B
namespace K57B
open PySem L2 L3 K57
theorem rep_knot {H : Hp} {v : V} {k : Int} (h : Rep H v (knotD k)) : ∃ a, v = .ref a ∧ H a = some (.tup [.str "knot", .int k]) := by
  obtain ⟨a, vs, rfl, ea, rs⟩ := rep_tup h
  cases rs with
  | cons h1 rs =>
    cases rs with
    | cons h2 rs =>
      cases rs
      cases h1
      cases h2
      exact ⟨a, rfl, ea⟩
theorem rep_part {H : Hp} {v : V} {k : Int} {ds : List D} (h : Rep H v (partD k ds)) : ∃ a c ws, v = .ref a ∧ H a = some (.tup [.str "part", .int k, .ref c]) ∧ H c = some (.tup ws) ∧ Reps H ws ds := by
  obtain ⟨a, vs, rfl, ea, rs⟩ := rep_tup h
  cases rs with
  | cons h1 rs =>
    cases rs with
    | cons h2 rs =>
      cases rs with
      | cons h3 rs =>
        cases rs
        cases h1
        cases h2
        obtain ⟨c, ws, rfl, ec, rc⟩ := rep_tup h3
        exact ⟨a, c, ws, rfl, ea, ec, rc⟩
theorem reps_get {H : Hp} : ∀ {ws : List V} {ds : List D} {i : Nat} {v : V}, Reps H ws ds → ws[i]? = some v → ∃ d, ds[i]? = some d ∧ Rep H v d
  | _, _, i, v, .nil, h => by simp at h
  | _, _, 0, v, .cons a _, h => by
    have := Option.some.inj h
    rw [← this]; exact ⟨_, rfl, a⟩
  | _, _, i + 1, v, .cons _ r, h => by
    obtain ⟨d, h1, h2⟩ := reps_get (i := i) r (by simpa using h)
    exact ⟨d, by simpa using h1, h2⟩
theorem Vals.at {R : D → Int → Prop} {ds : List D} {ks : List Int} (h : Vals R ds ks) : ∀ {i : Nat} {d : D}, ds[i]? = some d → ∃ k, ks[i]? = some k ∧ R d k := by
  induction h with
  | nil => intro i d hd; simp at hd
  | cons a _ ih =>
    intro i d hd
    cases i with
    | zero =>
      have := Option.some.inj hd
      rw [← this]; exact ⟨_, rfl, a⟩
    | succ i => obtain ⟨k, h1, h2⟩ := ih (by simpa using hd); exact ⟨k, by simpa using h1, h2⟩
def KeepT (H H' : Hp) : Prop := ∀ x vs, H x = some (.tup vs) → H' x = some (.tup vs)
theorem KeepT.trans {H H1 H2 : Hp} (a : KeepT H H1) (b : KeepT H1 H2) : KeepT H H2 := fun x vs e => b x vs (a x vs e)
theorem KeepT.same {H H' : Hp} (s : Same H H') : KeepT H H' := fun x vs e => s _ _ e
theorem KeepT.upd {H : Hp} {l : Addr} {o : HO} (h : ∀ vs, H l ≠ some (.tup vs)) : KeepT H (L2.upd H l o) := fun x vs q => by
  rw [upd_ne (fun z => h vs (by rw [← z]; exact q))]; exact q
theorem not_tup {H : Hp} {p : Addr} {xs : List V} (h : H p = some (.lst xs)) : ∀ vs, H p ≠ some (.tup vs) := fun vs z => by rw [h] at z; cases z
theorem tree_keep {H H' : Hp} (k : KeepT H H') : ∀ {t : Tr} {v : V}, Rep H v t.d → Rep H' v t.d
  | .nil, _, h => by cases rep_nil h; exact .non
  | .node l x r, _, h => by
    obtain ⟨a, vl, vr, rfl, ea, hl, hr⟩ := rep_node h
    exact .tup (k _ _ ea) (.cons (tree_keep k hl) (.cons (.int _) (.cons (tree_keep k hr) .nil)))
def keyD : D → Int
  | .tup (_ :: .int k :: _) => k
  | _ => 0
def Pp : Nat → D → Int → Prop
  | 0, d, k => d = knotD k
  | n + 1, d, k => d = knotD k ∨ ∃ ds ks, d = partD k ds ∧ ds.length ≤ 100 + n ∧ Vals (Pp n) ds ks
theorem Pp.key : ∀ {n : Nat} {d : D} {k : Int}, Pp n d k → keyD d = k
  | 0, _, _, h => by cases h; rfl
  | n + 1, _, _, h => by
    rcases h with rfl | ⟨ds, ks, rfl, _⟩ <;> rfl
theorem val_keyD {room : Nat} {t : Tr} : ∀ {n : Nat} {d : D} {k : Int}, Val room t n d k → keyD d = k
  | 0, _, _, h => by obtain ⟨rfl, _⟩ := h; rfl
  | n + 1, _, _, h => by obtain ⟨ds, ks, rfl, _⟩ := h; rfl
theorem Vals.keys {R : D → Int → Prop} (hk : ∀ d k, R d k → keyD d = k) {ds : List D} {ks : List Int} (h : Vals R ds ks) : ks = ds.map keyD := by
  induction h with
  | nil => rfl
  | cons a _ ih => rw [List.map_cons, ← ih, hk _ _ a]
theorem Vals.of {R : D → Int → Prop} {f : D → Int} : ∀ {ds : List D}, (∀ d ∈ ds, R d (f d)) → Vals R ds (ds.map f)
  | [], _ => .nil
  | d :: ds, h => .cons (h d (List.mem_cons_self ..)) (Vals.of fun e he => h e (List.mem_cons_of_mem _ he))
theorem Vals.all {R : D → Int → Prop} (hk : ∀ d k, R d k → keyD d = k) {ds : List D} {ks : List Int} (h : Vals R ds ks) : ∀ d ∈ ds, R d (keyD d) := by
  induction h with
  | nil => intro d hd; cases hd
  | cons a _ ih =>
    intro d hd
    rcases List.mem_cons.mp hd with rfl | hd
    · rw [hk _ _ a]; exact a
    · exact ih d hd
theorem part_inj {k k' : Int} {ds ds' : List D} (h : partD k ds = partD k' ds') : k = k' ∧ ds = ds' := by
  unfold partD at h
  injection h with h
  injection h with _ h
  injection h with h1 h
  injection h with h2 _
  injection h1 with h1
  injection h2 with h2
  exact ⟨h1, h2⟩
theorem knot_part {k k' : Int} {ds : List D} : knotD k ≠ partD k' ds := fun h => by
  unfold knotD partD at h
  injection h with h
  injection h with _ h
  injection h with _ h
  cases h
theorem val_part {room : Nat} {t : Tr} {m : Nat} {k k' : Int} {ds : List D} : Val room t m (partD k ds) k' → ∃ m', m = m' + 1 ∧ k' = k ∧ k ∈ t.keys ∧ ds.length = room ∧ (∀ d ∈ ds, Val room t m' d (keyD d)) ∧ (∀ d ∈ ds, keyD d ≠ k ∧ keyD d ∈ (at_ k t).keys) ∧ (ds.map keyD).Pairwise (Apart t) := by
  intro h
  cases m with
  | zero => exact absurd h.1.symm knot_part
  | succ m =>
    obtain ⟨es, ks, he, hk, hl, hv, hb, hp⟩ := h
    obtain ⟨rfl, rfl⟩ := part_inj he
    have hks := hv.keys fun d k => val_keyD
    subst hks
    exact ⟨m, rfl, rfl, hk, hl, hv.all fun d k => val_keyD, fun d hd => hb _ (List.mem_map_of_mem hd), hp⟩
theorem val_mk {room : Nat} {t : Tr} {m : Nat} {k : Int} {ds : List D} (hk : k ∈ t.keys) (hl : ds.length = room) (hv : ∀ d ∈ ds, Val room t m d (keyD d)) (hb : ∀ d ∈ ds, keyD d ≠ k ∧ keyD d ∈ (at_ k t).keys) (hp : (ds.map keyD).Pairwise (Apart t)) : Val room t (m + 1) (partD k ds) k :=
  ⟨ds, _, rfl, hk, hl, Vals.of hv, fun c hc => by obtain ⟨d, hd, rfl⟩ := List.mem_map.mp hc; exact hb d hd, hp⟩
theorem val_uni {room : Nat} (hr : 1 ≤ room) {t : Tr} : ∀ {m m' : Nat} {d : D} {k k' : Int}, Val room t m d k → Val room t m' d k' → m = m'
  | 0, 0, _, _, _, _, _ => rfl
  | 0, m' + 1, _, _, _, h, h' => by
    obtain ⟨rfl, _⟩ := h
    obtain ⟨ds, ks, e, _⟩ := h'
    exact absurd e knot_part
  | m + 1, 0, _, _, _, h, h' => by
    obtain ⟨rfl, _⟩ := h'
    obtain ⟨ds, ks, e, _⟩ := h
    exact absurd e knot_part
  | m + 1, m' + 1, _, _, _, h, h' => by
    have h0 := h
    obtain ⟨ds, ks, rfl, _⟩ := h
    obtain ⟨m1, e1, _, _, l1, v1, _⟩ := val_part h0
    obtain ⟨m2, e2, _, _, l2, v2, _⟩ := val_part h'
    cases ds with
    | nil => simp at l1; omega
    | cons d ds =>
      cases e1
      cases e2
      rw [val_uni hr (v1 d (List.mem_cons_self ..)) (v2 d (List.mem_cons_self ..))]
theorem val_pp {room : Nat} (hr : room ≤ 100) {t : Tr} : ∀ {m : Nat} {d : D} {k : Int}, Val room t m d k → Pp m d k
  | 0, _, _, h => h.1
  | m + 1, _, _, h => by
    obtain ⟨ds, ks, rfl, _, hl, hv, _⟩ := h
    refine .inr ⟨ds, ks, rfl, by omega, ?_⟩
    have hks := hv.keys fun d k => val_keyD
    subst hks
    exact Vals.of fun d hd => val_pp hr (hv.all (fun d k => val_keyD) d hd)
theorem Vals.imp {R S : D → Int → Prop} (h : ∀ d k, R d k → S d k) {ds : List D} {ks : List Int} (hv : Vals R ds ks) : Vals S ds ks := by
  induction hv with
  | nil => exact .nil
  | cons a _ ih => exact .cons (h _ _ a) ih
theorem Pp.succ : ∀ {n : Nat} {d : D} {k : Int}, Pp n d k → Pp (n + 1) d k
  | 0, _, _, h => .inl h
  | n + 1, _, _, h => by
    rcases h with h | ⟨ds, ks, e, hl, hv⟩
    · exact .inl h
    · exact .inr ⟨ds, ks, e, by omega, hv.imp fun d k => Pp.succ⟩
theorem Pp.mono {n : Nat} {d : D} {k : Int} (h : Pp n d k) : ∀ {m : Nat}, n ≤ m → Pp m d k
  | 0, hm => by rw [show n = 0 by omega] at h; exact h
  | m + 1, hm => by
    by_cases e : n = m + 1
    · rw [← e]; exact h
    · exact (Pp.mono h (m := m) (by omega)).succ
theorem pp_key {H : Hp} {y : V} {n : Nat} {d : D} {k : Int} (h : Rep H y d) (hv : Pp n d k) : ∃ b s rest, y = .ref b ∧ H b = some (.tup (.str s :: .int k :: rest)) := by
  have : d = knotD k ∨ ∃ ds, d = partD k ds := by
    cases n with
    | zero => exact .inl hv
    | succ n => rcases hv with h | ⟨ds, ks, e, _⟩; exact .inl h; exact .inr ⟨ds, e⟩
  rcases this with rfl | ⟨ds, rfl⟩
  · obtain ⟨a, rfl, ea⟩ := rep_knot h
    exact ⟨a, _, _, rfl, ea⟩
  · obtain ⟨a, c, ws, rfl, ea, _, _⟩ := rep_part h
    exact ⟨a, _, _, rfl, ea⟩
def NumR (room : Nat) (t : Tr) (d : D) (o : V) : Prop := (o = .non ∧ ∀ m k, ¬ Val room t m d k) ∨ ∃ (m : Nat) (k : Int), o = .int ((m : Int) + 1) ∧ Val room t m d k
end K57B
namespace K57B
open PySem L2 L3 K57
def spNum (n : Nat) : Sp := fun vs H Q _ => ∃ (v y : V) (t : Tr) (room m : Nat) (d : D) (k : Int), vs = [v, .int (room : Int), y] ∧ Rep H v t.d ∧ t.ord none none ∧ t.ht < 80 ∧ t.size ≤ 60 ∧ 1 ≤ room ∧ room ≤ 100 ∧ Rep H y d ∧ Pp m d k ∧ (m < n ∧ m ≤ 80) ∧ ∀ o H', Same H H' → NumR room t d o → Q o H'
theorem numR_flat {room : Nat} {t : Tr} {d : D} {o : V} (h : NumR room t d o) : o = .non ∨ ∃ i, o = .int i := by
  rcases h with ⟨h, _⟩ | ⟨m, k, h, _⟩
  · exact .inl h
  · exact .inr ⟨_, h⟩
theorem at_nil {k : Int} : ∀ {t : Tr}, k ∉ t.keys → at_ k t = .nil := fun {t} h => by
  by_cases e : at_ k t = .nil
  · exact e
  · exact absurd (at_mem e) h
theorem ints_ex : ∀ {ys : List V}, (∀ o ∈ ys, ∃ i, o = V.int i) → ∃ xs : List Int, ys = xs.map V.int
  | [], _ => ⟨[], rfl⟩
  | y :: ys, h => by
    obtain ⟨i, rfl⟩ := h y (List.mem_cons_self ..)
    obtain ⟨xs, rfl⟩ := ints_ex fun o ho => h o (List.mem_cons_of_mem _ ho)
    exact ⟨i :: xs, rfl⟩
theorem inV_non {ys : List V} (hf : ∀ o ∈ ys, o = V.non ∨ ∃ i, o = V.int i) : inV .non ys = true ↔ V.non ∈ ys := by
  unfold inV
  rw [List.any_eq_true]
  constructor
  · rintro ⟨o, ho, he⟩
    rcases hf o ho with rfl | ⟨i, rfl⟩
    · exact ho
    · cases he
  · intro h; exact ⟨_, h, rfl⟩
theorem flat_of {ys : List V} (hf : ∀ o ∈ ys, o = V.non ∨ ∃ i, o = V.int i) : ys.all flatV = true := by
  rw [List.all_eq_true]
  intro o ho
  rcases hf o ho with rfl | ⟨i, rfl⟩ <;> rfl
end K57B
namespace K57B
open PySem L2 L3 K57
def spSide : Sp := fun vs H Q _ => ∃ (a : Addr) (vl vr : V) (x k : Int), vs = [.ref a, .int k] ∧ H a = some (.tup [vl, .int x, vr]) ∧ Q (if k < x then vl else vr) H
def spWay : Sp := fun vs H Q _ => ∃ (v : V) (t : Tr) (k : Int), vs = [v, .int k] ∧ Rep H v t.d ∧ t.ht ≤ 1000 ∧ ∀ a H', H a = none → Same H H' → H' a = some (.lst ((way k t).map V.int)) → Q (.ref a) H'
theorem pigeon {α : Type} {R : α → Int → Prop} {Ap : α → α → Prop} (hd : ∀ a b x, R a x → R b x → ¬ Ap a b) : ∀ (ks : List α) (P : List Int), ks.Pairwise Ap → (∀ c ∈ ks, ∃ x ∈ P, R c x) → ks.length ≤ P.length
  | [], _, _, _ => Nat.zero_le _
  | c :: ks, P, hp, hr => by
    rw [List.pairwise_cons] at hp
    obtain ⟨x, hx, hc⟩ := hr c (List.mem_cons_self ..)
    have ih := pigeon hd ks (P.erase x) hp.2 fun c' hc' => by
      obtain ⟨y, hy, hcy⟩ := hr c' (List.mem_cons_of_mem _ hc')
      have hne : y ≠ x := fun z => hd c c' x hc (by rw [← z]; exact hcy) (hp.1 c' hc')
      exact ⟨y, (List.mem_erase_of_ne hne).mpr hy, hcy⟩
    have hl := List.length_erase_of_mem hx
    have hpos := List.length_pos_of_mem hx
    rw [List.length_cons]
    omega
theorem nodup_len {xs P : List Int} (hn : xs.Nodup) (hs : ∀ x ∈ xs, x ∈ P) : xs.length ≤ P.length :=
  pigeon (R := fun a x => a = x) (Ap := fun a b => a ≠ b) (fun a b x h1 h2 h3 => h3 (by rw [h1, h2])) xs P hn fun c hc => ⟨c, hs c hc, rfl⟩
theorem not_apart {t : Tr} (ho : t.ord none none) {a b x : Int} (ha : a ∈ t.keys) (hb : b ∈ t.keys) (h1 : x ∈ (at_ a t).keys) (h2 : x ∈ (at_ b t).keys) : ¬ Apart t a b := by
  have hx := at_sub a t x h1
  have w1 := (on_way a t none none ho ha x hx).mpr h1
  have w2 := (on_way b t none none ho hb x hx).mpr h2
  obtain ⟨i, hi, e1⟩ := List.getElem_of_mem w1
  obtain ⟨j, hj, e2⟩ := List.getElem_of_mem w2
  have t1 := way_take x t none none ho i a (by rw [← e1]; exact List.getElem?_eq_getElem hi)
  have t2 := way_take x t none none ho j b (by rw [← e2]; exact List.getElem?_eq_getElem hj)
  rintro ⟨h3, h4⟩
  rcases Nat.le_total i j with hij | hij
  · refine h4 ((on_way a t none none ho ha b hb).mp ?_)
    rw [t2]
    exact List.mem_take_iff_getElem.mpr ⟨i, by omega, e1⟩
  · refine h3 ((on_way b t none none ho hb a ha).mp ?_)
    rw [t1]
    exact List.mem_take_iff_getElem.mpr ⟨j, by omega, e2⟩
theorem at_trans {t : Tr} (ho : t.ord none none) {k c x : Int} (hk : k ∈ t.keys) (h1 : c ∈ (at_ k t).keys) (h2 : x ∈ (at_ c t).keys) : x ∈ (at_ k t).keys := by
  obtain ⟨l, r, hat⟩ := at_node k t none none ho hk
  rw [hat] at h1 ⊢
  exact below_in ho (.node l k r) (fun _ => hat) c h1 x h2
theorem at_has {t : Tr} (ho : t.ord none none) {k : Int} (hk : k ∈ t.keys) : k ∈ (at_ k t).keys := by
  obtain ⟨l, r, hat⟩ := at_node k t none none ho hk
  rw [hat]; simp [Tr.keys]
def Clr (t : Tr) (q : List Int) (c : Int) : Prop := ∀ x ∈ q, x ∉ (at_ c t).keys
instance (t : Tr) (q : List Int) (c : Int) : Decidable (Clr t q c) := by unfold Clr; infer_instance
theorem val_in {room : Nat} {t : Tr} {m : Nat} {d : D} {k : Int} (h : Val room t m d k) : k ∈ t.keys := by
  cases m with
  | zero => exact h.2
  | succ m => obtain ⟨_, _, _, h, _⟩ := h; exact h
theorem not_above {t : Tr} (ho : t.ord none none) {k c : Int} (hk : k ∈ t.keys) (hc : c ∈ (at_ k t).keys) (hne : c ≠ k) : k ∉ (at_ c t).keys := fun hx => by
  obtain ⟨l, r, hat⟩ := at_node k t none none ho hk
  obtain ⟨lo, hi, hord⟩ := at_ord k t none none ho
  rw [hat] at hord hc
  simp only [Tr.keys, List.mem_append, List.mem_singleton] at hc
  rcases hc with (hc | hc) | hc
  · have := below_in ho l (fun hn => sub_at ho hat (.inl rfl) hn) c hc k hx
    have := ord_l hord this
    omega
  · exact hne hc
  · have := below_in ho r (fun hn => sub_at ho hat (.inr rfl) hn) c hc k hx
    have := ord_r hord this
    omega
theorem clr_ex {room : Nat} {t : Tr} (ho : t.ord none none) {m : Nat} {k k' : Int} {ds : List D} {q : List Int} (h : Val room t m (partD k ds) k') (hr : 1 ≤ room) (hq : q.length ≤ room) (hkq : k ∈ q) : ∃ d ∈ ds, Clr t q (keyD d) := by
  obtain ⟨m', _, rfl, hk, hl, hv, hb, hp⟩ := val_part h
  by_cases hc : ∃ d ∈ ds, Clr t q (keyD d)
  · exact hc
  · exfalso
    have hle := pigeon (R := fun c x => c ∈ t.keys ∧ x ∈ (at_ c t).keys) (Ap := Apart t) (fun a b x h1 h2 => not_apart ho h1.1 h2.1 h1.2 h2.2) (ds.map keyD) (q.erase k') hp fun c hc' => by
      obtain ⟨d, hd, rfl⟩ := List.mem_map.mp hc'
      have hnc : ¬ Clr t q (keyD d) := fun z => hc ⟨d, hd, z⟩
      have hex : ∃ x ∈ q, x ∈ (at_ (keyD d) t).keys := by
        by_cases z : ∃ x ∈ q, x ∈ (at_ (keyD d) t).keys
        · exact z
        · exact absurd (fun x hx hx2 => z ⟨x, hx, hx2⟩) hnc
      obtain ⟨x, hx, hx2⟩ := hex
      have hdt := val_in (hv d hd)
      have hne : x ≠ k' := fun z => by
        rw [z] at hx2
        exact not_above ho hk (hb d hd).2 (hb d hd).1 hx2
      exact ⟨x, (List.mem_erase_of_ne hne).mpr hx, hdt, hx2⟩
    have hl2 := List.length_erase_of_mem hkq
    have hpos := List.length_pos_of_mem hkq
    rw [List.length_map] at hle
    omega
end K57B
namespace K57B
open PySem L2 L3 K57
def spKat : Sp := fun vs H Q _ => ∃ (v : V) (t : Tr) (k : Int), vs = [v, .int k] ∧ Rep H v t.d ∧ ∀ v', Rep H v' (at_ k t).d → Q v' H
def spBelow : Sp := fun vs H Q _ => ∃ (v : V) (t l r : Tr) (k x : Int), vs = [v, .int k] ∧ Rep H v t.d ∧ t.ht < 80 ∧ t.size ≤ 1000 ∧ at_ k t = .node l x r ∧ ∀ a H', H a = none → Same H H' → H' a = some (.lst ((l.keys ++ r.keys).map V.int)) → Q (.ref a) H'
section
variable {P : Program} {w : World} {K : PySem.W.Frag} {mg : Str → Option Value} {base : Heap}
theorem ok_side {f : Addr} (F : Fd K mg "side_towards" s_side_towards f) (T : Tx K mg) : Cal P w K mg base CX0 1 "side_towards" spSide := by
  refine F.cal sc_side_towards (fun _ _ _ _ _ _ us hl => match us, hl with | [_, _], _ => rfl) (fun vs H Q E h => ?_) (fun cdv A outer s H vs Q E hr h => ?_)
  · obtain ⟨a, vl, vr, x, k, rfl, _⟩ := h; rfl
  · obtain ⟨a, vl, vr, x, k, rfl, ea, q⟩ := h
    refine ⟨_, (bone (sret (qif (tcmp rLt (qv 1) (qix (xIx K) (qv 0) qint (fun _ _ => rfl)) (nomark _)) (qix (xIx K) (qv 0) qint (fun _ _ => rfl)) (qix (xIx K) (qv 0) qint (fun _ _ => rfl))))), ?_⟩
    refine ⟨_, rfl, _, rfl, a, _, 1, _, rfl, rfl, .inr (SqT.of ea), atI_nat (j := 1) rfl, _, _, rfl, rfl, _, rfl, ?_⟩
    refine ite2 (fun h => ?_) (fun h => ?_)
    · have h : k < x := of_decide_eq_true h
      rw [if_pos h] at q
      exact ⟨_, rfl, a, _, 0, _, rfl, rfl, .inr (SqT.of ea), atI_nat (j := 0) rfl, q⟩
    · have h : ¬ k < x := fun z => h (decide_eq_true z)
      rw [if_neg h] at q
      exact ⟨_, rfl, a, _, 2, _, rfl, rfl, .inr (SqT.of ea), atI_nat (j := 2) rfl, q⟩
theorem ok_kat {f : Addr} (F : Fd K mg "knot_at" s_knot_at f) (T : Tx K mg) (C_side_towards : Cal P w K mg base CX0 1 "side_towards" spSide) : Cal P w K mg base CX0 2 "knot_at" spKat := by
  refine F.cal sc_knot_at (fun _ _ _ _ _ _ us hl => match us, hl with | [_, _], _ => rfl) (fun vs H Q E h => ?_) (fun cdv A outer s H vs Q E hr h => ?_)
  · obtain ⟨v, t, k, rfl, _⟩ := h; rfl
  · obtain ⟨v, t, k, rfl, hv, q⟩ := h
    refine ⟨_, (bcons (swhile PassesOwn.never (QW.tst (wand (tcmp rIsNot (qv 0) qnon (nomark _)) (wand1 (tcmp (rNeq hr) (qix (xIx K) (qv 0) qint (fun _ _ => rfl)) (qv 1) (nomark _)))))
        (bone (sset (i := 0) sc_knot_at.nd rfl (by first | exact Or.inl rfl | exact Or.inr rfl) (qF C_side_towards (hr.mono (by omega)) pass0 rfl (qcons (qv 0) (qcons (qv 1) qnil))))))
      (bone (sret (qv 0)))), ?_⟩
    refine ⟨fun m σ H' => ∃ (v' : V) (t' : Tr), σ = [some v', some (.int k)] ∧ H' = H ∧ Rep H v' t'.d ∧ at_ k t' = at_ k t ∧ m = t'.ht, ⟨_, v, t, rfl, rfl, hv, rfl, rfl⟩, ?_⟩
    rintro m σ H1 ⟨v', t', rfl, rfl, hv', hat, rfl⟩
    cases t' with
    | nil =>
      cases rep_nil hv'
      refine ⟨_, rfl, rfl, _, rfl, ?_⟩
      refine ⟨_, rfl, q .non ?_⟩
      rw [← hat]; exact .non
    | node l x r =>
      obtain ⟨a, vl, vr, rfl, ea, hl, hr'⟩ := rep_node hv'
      refine ⟨_, rfl, rfl, _, rfl, ?_⟩
      refine iteT ?_
      refine ⟨_, rfl, a, _, 1, _, rfl, rfl, .inr (SqT.of ea), atI_nat (j := 1) rfl, _, rfl, _, rfl, ?_⟩
      by_cases hx : x = k
      · rw [decide_eq_true hx]
        refine iteF ?_
        refine ⟨_, rfl, q _ ?_⟩
        rw [← hat, at_, if_pos hx]; exact hv'
      · rw [decide_eq_false hx]
        refine iteT ?_
        refine ⟨fun σ' H' => ∃ m', m' < (Tr.node l x r).ht ∧ ∃ (v' : V) (t' : Tr), σ' = [some v', some (.int k)] ∧ H' = H1 ∧ Rep H1 v' t'.d ∧ at_ k t' = at_ k t ∧ m' = t'.ht, fun _ _ z => z, ?_⟩
        refine ⟨_, rfl, _, rfl, a, vl, vr, x, k, rfl, ea, ?_⟩
        have hv2 : Rep H1 (if k < x then vl else vr) (if k < x then l else r).d := by
          by_cases hk : k < x
          · rw [if_pos hk, if_pos hk]; exact hl
          · rw [if_neg hk, if_neg hk]; exact hr'
        refine ⟨_, ?_, _, _, rfl, rfl, hv2, ?_, rfl⟩
        · rw [Tr.ht]; split <;> omega
        · rw [← hat]
          conv => rhs; rw [at_, if_neg hx]
          split <;> rfl
theorem ok_way {f : Addr} (F : Fd K mg "way_to" s_way_to f) (T : Tx K mg) (C_side_towards : Cal P w K mg base CX0 1 "side_towards" spSide) : Cal P w K mg base CX0 2 "way_to" spWay := by
  refine F.cal sc_way_to (fun _ _ _ _ _ _ us hl => match us, hl with | [_, _], _ => rfl) (fun vs H Q E h => ?_) (fun cdv A outer s H vs Q E hr h => ?_)
  · obtain ⟨v, t, k, rfl, _⟩ := h; rfl
  · obtain ⟨v, t, k, rfl, hv, ht, q⟩ := h
    have hwl := way_len k t
    refine ⟨_, (bcons (sset (i := 2) sc_way_to.nd rfl (by first | exact Or.inl rfl | exact Or.inr rfl) (qlst qnil))
      (bcons (swhile PassesOwn.never (QW.tst (wand (tcmp rIsNot (qv 0) qnon (nomark _)) (wand1 (tcmp (rNeq hr) (qix (xIx K) (qv 0) qint (fun _ _ => rfl)) (qv 1) (nomark _)))))
        (bcons (sexpr (qBm K PySem.F.plainAttrs_list PySem.F.slot_list_append PySem.F.type_list_append mAppend (qv 2) (qcons (qix (xIx K) (qv 0) qint (fun _ _ => rfl)) qnil)))
        (bone (sset (i := 0) sc_way_to.nd rfl (by first | exact Or.inl rfl | exact Or.inr rfl) (qF C_side_towards (hr.mono (by omega)) pass0 rfl (qcons (qv 0) (qcons (qv 1) qnil)))))))
      (bone (sret (qif (tcmp rIs (qv 0) qnon (nomark _)) (qv 2) (qop rAdd (qv 2) (qlst (qcons (qv 1) qnil)))))))), ?_⟩
    refine ⟨(show 0 ≤ sizeLine by decide), fun l1 H1 n1 s1 e1 _ => ?_⟩
    refine ⟨fun m σ H' => ∃ (v' : V) (t' : Tr) (ys : List Int), σ = [some v', some (.int k), some (.ref l1)] ∧ Same H H' ∧ H' l1 = some (.lst (ys.map V.int)) ∧ Rep H v' t'.d ∧ ys ++ way k t' = way k t ∧ m = t'.ht, ⟨_, v, t, [], rfl, s1, e1, hv, rfl, rfl⟩, ?_⟩
    rintro m σ H2 ⟨v', t', ys, rfl, s2, e2, hv', hw, rfl⟩
    have hyl : ys.length ≤ 1000 := by
      have := congrArg List.length hw
      rw [List.length_append] at this
      omega
    cases t' with
    | nil =>
      cases rep_nil hv'
      rw [way, List.append_nil] at hw
      rw [hw] at e2
      refine ⟨_, rfl, rfl, _, rfl, ?_⟩
      refine ⟨_, rfl, rfl, _, rfl, ?_⟩
      exact ⟨_, rfl, q l1 H2 n1 s2 e2⟩
    | node l x r =>
      obtain ⟨a, vl, vr, rfl, ea, hl, hr'⟩ := rep_node hv'
      have ea2 := s2 _ _ ea
      refine ⟨_, rfl, rfl, _, rfl, ?_⟩
      refine iteT ?_
      refine ⟨_, rfl, a, _, 1, _, rfl, rfl, .inr (SqT.of ea2), atI_nat (j := 1) rfl, _, rfl, _, rfl, ?_⟩
      by_cases hx : x = k
      · rw [decide_eq_true hx]
        refine iteF ?_
        rw [way, if_pos hx] at hw
        refine ⟨_, rfl, rfl, _, rfl, ?_⟩
        refine iteF ?_
        refine ⟨_, rfl, _, rfl, (show 1 ≤ sizeLine by decide), fun l3 H3 n3 s3 e3 _ => ?_⟩
        refine ⟨_, _, s3 _ _ e2, e3, sizeBig' (by simp; omega), fun l4 H4 n4 s4 e4 _ => ?_⟩
        refine q l4 H4 (s2.free (s3.free n4)) (s2.trans (s3.trans s4)) ?_
        rw [e4, ← hw, List.map_append]; rfl
      · rw [decide_eq_false hx]
        refine iteT ?_
        rw [way, if_neg hx] at hw
        refine ⟨fun σ' H' => ∃ m', m' < (Tr.node l x r).ht ∧ ∃ (v' : V) (t' : Tr) (ys : List Int), σ' = [some v', some (.int k), some (.ref l1)] ∧ Same H H' ∧ H' l1 = some (.lst (ys.map V.int)) ∧ Rep H v' t'.d ∧ ys ++ way k t' = way k t ∧ m' = t'.ht, fun _ _ z => z, ?_⟩
        refine ⟨_, rfl, .inl ⟨rfl, _, SqL.of e2⟩, _, rfl, a, _, 1, _, rfl, rfl, .inr (SqT.of ea2), atI_nat (j := 1) rfl, l1, _, _, rfl, rfl, e2, sizeBig (by rw [List.length_map]; omega), ?_⟩
        have sA := same_upd (o := .lst (ys.map V.int ++ [.int x])) s2 n1
        refine ⟨_, rfl, _, rfl, a, vl, vr, x, k, rfl, sA _ _ ea, ?_⟩
        have hv2 : Rep H (if k < x then vl else vr) (if k < x then l else r).d := by
          by_cases hk : k < x
          · rw [if_pos hk, if_pos hk]; exact hl
          · rw [if_neg hk, if_neg hk]; exact hr'
        refine ⟨_, ?_, _, _, ys ++ [x], rfl, sA, ?_, hv2, ?_, rfl⟩
        · rw [Tr.ht]; split <;> omega
        · rw [List.map_append]; exact upd_same
        · rw [← hw, List.append_assoc]
          congr 1
          split <;> rfl
theorem ok_kof {f : Addr} (F : Fd K mg "keys_of" s_keys_of f) (T : Tx K mg) : ∀ n, Cal P w K mg base CX0 n "keys_of" (spKof n) := by
  intro n
  induction n with
  | zero => exact (F.none (ps := ["tree"]) (fun _ _ _ _ _ _ us hl => match us, hl with | [_], _ => rfl) fun vs H Q E ⟨v, t, _, _, h2, _⟩ => by omega)
  | succ n C_keys_of =>
    refine F.cal sc_keys_of (fun _ _ _ _ _ _ us hl => match us, hl with | [_], _ => rfl) (fun vs H Q E h => ?_) (fun cdv A outer s H vs Q E hr h => ?_)
    · obtain ⟨v, t, rfl, _⟩ := h; rfl
    · obtain ⟨v, t, rfl, hv, ht, hz, q⟩ := h
      refine ⟨_, (bcons (sif (tcmp rIs (qv 0) qnon (nomark _)) (bone (sret (qlst qnil))) bnil)
      (bone (sret (qop rAdd (qop rAdd (qF C_keys_of (hr.mono (by omega)) pass0 rfl (qcons (qix (xIx K) (qv 0) qint (fun _ _ => rfl)) qnil)) (qlst (qcons (qix (xIx K) (qv 0) qint (fun _ _ => rfl)) qnil))) (qF C_keys_of (hr.mono (by omega)) pass0 rfl (qcons (qix (xIx K) (qv 0) qint (fun _ _ => rfl)) qnil)))))), ?_⟩
      cases t with
      | nil =>
        cases rep_nil hv
        exact ⟨_, rfl, rfl, _, rfl, (show 0 ≤ sizeLine by decide), fun r H1 n1 s1 e1 _ => q r H1 n1 s1 e1⟩
      | node l x r =>
        obtain ⟨a, vl, vr, rfl, ea, hl, hr'⟩ := rep_node hv
        simp only [Tr.ht] at ht
        simp only [Tr.size] at hz
        refine ⟨_, rfl, rfl, _, rfl, ?_⟩
        refine ⟨_, rfl, a, _, 0, _, rfl, rfl, .inr (SqT.of ea), atI_nat (j := 0) rfl, vl, l, rfl, hl, by omega, by omega, fun r1 H1 n1 s1 e1 => ?_⟩
        refine ⟨_, rfl, a, _, 1, _, rfl, rfl, .inr (SqT.of (s1 _ _ ea)), atI_nat (j := 1) rfl, (show 1 ≤ sizeLine by decide), fun r2 H2 n2 s2 e2 _ => ?_⟩
        have kl := Tr.keys_length l
        have kr := Tr.keys_length r
        refine ⟨_, _, s2 _ _ e1, e2, sizeBig' (by simp; omega), fun r3 H3 n3 s3 e3 _ => ?_⟩
        have s13 := (s1.trans s2).trans s3
        refine ⟨_, rfl, a, _, 2, _, rfl, rfl, .inr (SqT.of (s13 _ _ ea)), atI_nat (j := 2) rfl, vr, r, rfl, hr'.mono s13, by omega, by omega, fun r4 H4 n4 s4 e4 => ?_⟩
        refine ⟨_, _, s4 _ _ e3, e4, sizeBig' (by simp; omega), fun r5 H5 n5 s5 e5 _ => ?_⟩
        refine q r5 H5 ((s13.trans s4).free n5) ((s13.trans s4).trans s5) ?_
        rw [e5]; simp [Tr.keys]
theorem ok_below {f : Addr} (F : Fd K mg "below" s_below f) (T : Tx K mg) (C_knot_at : Cal P w K mg base CX0 2 "knot_at" spKat) (C_keys_of : Cal P w K mg base CX0 80 "keys_of" (spKof 80)) : Cal P w K mg base CX0 81 "below" spBelow := by
  refine F.cal sc_below (fun _ _ _ _ _ _ us hl => match us, hl with | [_, _], _ => rfl) (fun vs H Q E h => ?_) (fun cdv A outer s H vs Q E hr h => ?_)
  · obtain ⟨v, t, l, r, k, x, rfl, _⟩ := h; rfl
  · obtain ⟨v, t, l, r, k, x, rfl, hv, ht, hz, hat, q⟩ := h
    have hsz := at_size k t
    rw [hat] at hsz
    simp only [Tr.size, Tr.ht] at hsz
    refine ⟨_, (bcons (sset (i := 2) sc_below.nd rfl (by first | exact Or.inl rfl | exact Or.inr rfl) (qF C_knot_at (hr.mono (by omega)) pass0 rfl (qcons (qv 0) (qcons (qv 1) qnil))))
      (bone (sret (qop rAdd (qF C_keys_of (hr.mono (by omega)) pass0 rfl (qcons (qix (xIx K) (qv 2) qint (fun _ _ => rfl)) qnil)) (qF C_keys_of (hr.mono (by omega)) pass0 rfl (qcons (qix (xIx K) (qv 2) qint (fun _ _ => rfl)) qnil)))))), ?_⟩
    refine ⟨_, rfl, _, rfl, v, t, k, rfl, hv, fun v' hv' => ?_⟩
    rw [hat] at hv'
    obtain ⟨a, vl, vr, rfl, ea, hl, hr'⟩ := rep_node hv'
    refine ⟨_, rfl, a, _, 0, _, rfl, rfl, .inr (SqT.of ea), atI_nat (j := 0) rfl, vl, l, rfl, hl, by omega, by omega, fun r1 H1 n1 s1 e1 => ?_⟩
    refine ⟨_, rfl, a, _, 2, _, rfl, rfl, .inr (SqT.of (s1 _ _ ea)), atI_nat (j := 2) rfl, vr, r, rfl, hr'.mono s1, by omega, by omega, fun r2 H2 n2 s2 e2 => ?_⟩
    have kl := Tr.keys_length l
    have kr := Tr.keys_length r
    refine ⟨_, _, s2 _ _ e1, e2, sizeBig' (by simp; omega), fun r3 H3 n3 s3 e3 _ => ?_⟩
    refine q r3 H3 (s1.free (s2.free n3)) (s1.trans (s2.trans s3)) ?_
    rw [e3, List.map_append]
end
end K57B
namespace K57L
open PySem L2 L3
def lv (tb : Tab) (k : Int) : Int := ((look tb k).getD (0, 0)).1
def mx0 (ks : List (Int × Int)) : Int := maxI (0 :: ks.map (·.1))
def sz0 (ks : List (Int × Int)) : Int := 1 + ((ks.filter fun p => decide (p.1 = mx0 ks)).map (·.2)).sum
def own (room : Int) (tb : Tab) (l : Tr) (k : Int) (r : Tr) : List (Int × Int) :=
  if sz0 (l.mk1 room ++ r.mk1 room) ≤ room then ((l.key? ++ r.key?).filter fun c => decide (lv tb c = mx0 (l.mk1 room ++ r.mk1 room))).map fun c => (k, c) else []
theorem maxI_in : ∀ (l : List Int), l ≠ [] → maxI l ∈ l ∧ ∀ x ∈ l, x ≤ maxI l
  | [], h => absurd rfl h
  | [a], _ => by simp [maxI]
  | a :: b :: r, _ => by
    obtain ⟨h1, h2⟩ := maxI_in (b :: r) (by simp)
    have e : maxI (a :: b :: r) = max a (maxI (b :: r)) := rfl
    rw [e]
    constructor
    · rcases Int.le_total a (maxI (b :: r)) with h | h
      · rw [Int.max_eq_right h]; exact .tail _ h1
      · rw [Int.max_eq_left h]; exact .head _
    · intro x hx
      rcases List.mem_cons.mp hx with rfl | hx
      · omega
      · have := h2 x hx; omega
theorem rule_pos {room : Int} {ks : List (Int × Int)} (h : ∀ p ∈ ks, 1 ≤ p.1) : 1 ≤ (ruleM ks room).1 := by
  unfold ruleM
  by_cases e : ks = []
  · rw [if_pos e]; decide
  · rw [if_neg e]
    have hm := (maxI_in (ks.map (·.1)) (by simpa using e)).1
    obtain ⟨p, hp, hq⟩ := List.mem_map.mp hm
    have := h p hp
    dsimp only
    split
    · show 1 ≤ maxI _; omega
    · show 1 ≤ maxI _ + 1; omega
theorem mark_pos (room : Int) : ∀ t : Tr, ∀ p ∈ t.mk1 room, 1 ≤ p.1
  | .nil, p, h => by simp [Tr.mk1] at h
  | .node l k r, p, h => by
    rw [Tr.mk1, List.mem_singleton] at h
    subst h
    rw [Tr.mark_node]
    refine rule_pos fun p hp => ?_
    rcases List.mem_append.mp hp with h | h
    · exact mark_pos room l p h
    · exact mark_pos room r p h
end K57L
namespace K57L
open PySem L2 L3
def tie (room : Int) (l : Tr) (k : Int) (r u : Tr) : Bool := decide ((u.mark room).1 = ((Tr.node l k r).mark room).1)
def hd (room : Int) : Tr → List Int
  | .nil => []
  | .node l k r => k :: ((if tie room l k r l then hd room l else []) ++ (if tie room l k r r then hd room r else []))
def er (room : Int) : Tr → List (Int × List Int)
  | .nil => []
  | .node l k r => (er room l ++ (if tie room l k r l then [] else l.key?.map fun c => (c, hd room l))) ++ (er room r ++ (if tie room l k r r then [] else r.key?.map fun c => (c, hd room r)))
def en (room : Int) (t : Tr) : List (Int × List Int) := er room t ++ t.key?.map fun c => (c, hd room t)
def blw : Tr → List Int
  | .nil => []
  | .node l _ r => l.keys ++ r.keys
theorem key_keys (t : Tr) : ∀ c ∈ t.key?, c ∈ t.keys := by
  cases t with
  | nil => intro c h; simp [Tr.key?] at h
  | node l k r => intro c h; simp [Tr.key?] at h; subst h; simp [Tr.keys]
theorem blw_keys (t : Tr) : ∀ c ∈ blw t, c ∈ t.keys := by
  cases t with
  | nil => intro c h; simp [blw] at h
  | node l k r => intro c h; simp only [blw, List.mem_append] at h; simp only [Tr.keys, List.mem_append, List.mem_singleton]; rcases h with h | h <;> simp [h]
theorem nd_node {l r : Tr} {k : Int} (h : (Tr.node l k r).keys.Nodup) : l.keys.Nodup ∧ r.keys.Nodup ∧ k ∉ l.keys ∧ k ∉ r.keys ∧ ∀ c ∈ l.keys, c ∉ r.keys := by
  rw [Tr.keys, List.append_assoc, List.nodup_append] at h
  obtain ⟨h1, h2, h3⟩ := h
  rw [List.singleton_append, List.nodup_cons] at h2
  exact ⟨h1, h2.2, fun hk => h3 k hk k (by simp) rfl, h2.1, fun c hc hr => h3 c hc c (by simp [hr]) rfl⟩
abbrev PTab := List (Int × List Int)
def lkP (D : PTab) (c : Int) : List Int := ((D.find? fun e => decide (e.1 = c)).map (·.2)).getD []
theorem side_key {room : Int} {u : Tr} {b : Bool} {e : Int × List Int} (ih : ∀ e ∈ er room u, e.1 ∈ blw u) (h : e ∈ er room u ++ (if b = true then [] else u.key?.map fun c => (c, hd room u))) : e.1 ∈ u.keys := by
  rcases List.mem_append.mp h with h | h
  · exact blw_keys u _ (ih e h)
  · split at h
    · cases h
    · obtain ⟨c, hc, rfl⟩ := List.mem_map.mp h
      exact key_keys u c hc
theorem er_keys (room : Int) : ∀ (t : Tr) (e : Int × List Int), e ∈ er room t → e.1 ∈ blw t
  | .nil, e, h => by simp [er] at h
  | .node l k r, e, h => by
    rw [er] at h
    simp only [blw, List.mem_append]
    rcases List.mem_append.mp h with h | h
    · exact .inl (side_key (er_keys room l) h)
    · exact .inr (side_key (er_keys room r) h)
theorem en_nodup {room : Int} : ∀ {t : Tr}, t.keys.Nodup → ((en room t).map (·.1)).Nodup
  | .nil, _ => by simp [en, er, Tr.key?]
  | .node l k r, hn => by
    obtain ⟨n1, n2, n3, n4, n5⟩ := nd_node hn
    have side : ∀ (u : Tr) (b : Bool), ((en room u).map (·.1)).Nodup → ((er room u ++ (if b = true then [] else u.key?.map fun c => (c, hd room u))).map (·.1)).Nodup := fun u b h => by
      cases b with
      | false => exact h
      | true => unfold en at h; rw [List.map_append] at h; simpa using (List.nodup_append.mp h).1
    have h1 := side l (tie room l k r l) (en_nodup n1)
    have h2 := side r (tie room l k r r) (en_nodup n2)
    unfold en
    rw [er, List.map_append, List.map_append, List.nodup_append, List.nodup_append]
    refine ⟨⟨h1, h2, fun a ha b hb z => ?_⟩, by simp [Tr.key?], fun a ha b hb z => ?_⟩
    · obtain ⟨e, he, rfl⟩ := List.mem_map.mp ha
      obtain ⟨e', he', rfl⟩ := List.mem_map.mp hb
      exact n5 _ (side_key (er_keys room l) he) (by rw [z]; exact side_key (er_keys room r) he')
    · have hb' : b = k := by simpa [Tr.key?] using hb
      subst hb'
      subst z
      rcases List.mem_append.mp ha with ha | ha
      · obtain ⟨e, he, h⟩ := List.mem_map.mp ha
        exact n3 (by rw [← h]; exact side_key (er_keys room l) he)
      · obtain ⟨e, he, h⟩ := List.mem_map.mp ha
        exact n4 (by rw [← h]; exact side_key (er_keys room r) he)
end K57L
namespace K57L
open PySem L2 L3
def so (p : List Int) : List Int := p.mergeSort fun a b => decide (a ≤ b)
theorem so_perm (p : List Int) : (so p).Perm p := List.mergeSort_perm _ _
theorem flat_side (room : Int) (u : Tr) (b : Bool) : ((if b = true then hd room u else []) ++ ((er room u ++ (if b = true then [] else u.key?.map fun c => (c, hd room u))).map (·.2)).flatten).Perm (hd room u ++ ((er room u).map (·.2)).flatten) := by
  cases b with
  | true => simp
  | false =>
    cases u with
    | nil => simp [hd, er, Tr.key?]
    | node a c d => simpa [Tr.key?] using List.perm_append_comm
theorem flat_keys (room : Int) : ∀ t : Tr, (hd room t ++ ((er room t).map (·.2)).flatten).Perm t.keys
  | .nil => .refl _
  | .node l k r => by
    have h1 := (flat_side room l (tie room l k r l)).trans (flat_keys room l)
    have h2 := (flat_side room r (tie room l k r r)).trans (flat_keys room r)
    rw [hd, er, List.map_append, List.flatten_append, Tr.keys]
    have e : (k :: ((if tie room l k r l = true then hd room l else []) ++ (if tie room l k r r = true then hd room r else [])) ++
        (((er room l ++ (if tie room l k r l = true then [] else l.key?.map fun c => (c, hd room l))).map (·.2)).flatten ++ ((er room r ++ (if tie room l k r r = true then [] else r.key?.map fun c => (c, hd room r))).map (·.2)).flatten)).Perm
        (k :: (((if tie room l k r l = true then hd room l else []) ++ ((er room l ++ (if tie room l k r l = true then [] else l.key?.map fun c => (c, hd room l))).map (·.2)).flatten) ++ ((if tie room l k r r = true then hd room r else []) ++ ((er room r ++ (if tie room l k r r = true then [] else r.key?.map fun c => (c, hd room r))).map (·.2)).flatten))) := by
      rw [List.cons_append]
      refine List.Perm.cons _ ?_
      generalize (if tie room l k r l = true then hd room l else []) = a
      generalize (if tie room l k r r = true then hd room r else []) = b
      generalize ((er room l ++ (if tie room l k r l = true then [] else l.key?.map fun c => (c, hd room l))).map (·.2)).flatten = c
      generalize ((er room r ++ (if tie room l k r r = true then [] else r.key?.map fun c => (c, hd room r))).map (·.2)).flatten = d
      rw [List.append_assoc, List.append_assoc]
      refine List.Perm.append_left _ ?_
      rw [← List.append_assoc, ← List.append_assoc]
      exact List.Perm.append_right _ List.perm_append_comm
    refine e.trans ((List.Perm.cons _ (h1.append h2)).trans ?_)
    rw [List.append_assoc, List.singleton_append]
    exact List.perm_middle.symm
theorem en_flat (room : Int) (t : Tr) : (((en room t).map (·.2)).flatten).Perm t.keys := by
  refine List.Perm.trans ?_ (flat_keys room t)
  unfold en
  rw [List.map_append, List.flatten_append]
  cases t with
  | nil => exact .refl _
  | node l k r => simpa [Tr.key?] using List.perm_append_comm
theorem hd_top {room : Int} {l r : Tr} {k : Int} : k ∈ hd room (.node l k r) := by rw [hd]; exact .head _
theorem er_top (room : Int) : ∀ (t : Tr) (e : Int × List Int), e ∈ er room t → e.1 ∈ e.2
  | .nil, e, h => by simp [er] at h
  | .node l k r, e, h => by
    have side : ∀ (u : Tr) (b : Bool), (∀ e ∈ er room u, e.1 ∈ e.2) → e ∈ er room u ++ (if b = true then [] else u.key?.map fun c => (c, hd room u)) → e.1 ∈ e.2 := fun u b ih h => by
      rcases List.mem_append.mp h with h | h
      · exact ih e h
      · cases b with
        | true => cases h
        | false =>
          cases u with
          | nil => simp [Tr.key?] at h
          | node a c d =>
            simp [Tr.key?] at h
            subst h
            exact hd_top
    rw [er] at h
    rcases List.mem_append.mp h with h | h
    · exact side l _ (er_top room l) h
    · exact side r _ (er_top room r) h
theorem en_top {room : Int} {t : Tr} {e : Int × List Int} (h : e ∈ en room t) : e.1 ∈ e.2 := by
  rcases List.mem_append.mp h with h | h
  · exact er_top room t e h
  · cases t with
    | nil => simp [Tr.key?] at h
    | node l k r => simp [Tr.key?] at h; subst h; exact hd_top
theorem hd_size {room : Int} (hr : 1 ≤ room) : ∀ t : Tr, ((hd room t).length : Int) = (t.mark room).2 ∧ ((hd room t).length : Int) ≤ room
  | .nil => ⟨rfl, by simp [hd]; omega⟩
  | .node l k r => by
    obtain ⟨l1, l2⟩ := hd_size hr l
    obtain ⟨r1, r2⟩ := hd_size hr r
    have hp : ∀ p ∈ l.mk1 room ++ r.mk1 room, 1 ≤ p.1 := fun p hp => by
      rcases List.mem_append.mp hp with h | h
      · exact mark_pos room l p h
      · exact mark_pos room r p h
    have sd : ∀ (u : Tr) (M : Int), 1 ≤ M → ((u.mk1 room).filter fun p => decide (p.1 = M)).map (·.2) = if (u.mark room).1 = M then (match u with | .nil => [] | .node .. => [(u.mark room).2]) else [] := fun u M hM => by
      cases u with
      | nil => simp [Tr.mk1]
      | node a b c => by_cases h : ((Tr.node a b c).mark room).1 = M <;> simp [Tr.mk1, h]
    have key : ((Tr.node l k r).mark room) = ruleM (l.mk1 room ++ r.mk1 room) room := Tr.mark_node room l k r
    have nil0 : (Tr.nil.mark room).1 = 0 := rfl
    rw [hd, List.length_cons, List.length_append]
    have lenI : ∀ (u : Tr) (b : Bool), (((if b = true then hd room u else []).length : Nat) : Int) = if b = true then ((hd room u).length : Int) else 0 := fun u b => by cases b <;> simp
    have L : ((((if tie room l k r l = true then hd room l else []).length + (if tie room l k r r = true then hd room r else []).length + 1 : Nat)) : Int) = (if tie room l k r l = true then (l.mark room).2 else 0) + (if tie room l k r r = true then (r.mark room).2 else 0) + 1 := by
      rw [← l1, ← r1]
      have a := lenI l (tie room l k r l)
      have b := lenI r (tie room l k r r)
      omega
    rw [L]
    by_cases e : l.mk1 room ++ r.mk1 room = []
    · have hl : l = .nil := by cases l with
        | nil => rfl
        | node a b c => simp [Tr.mk1] at e
      have hr' : r = .nil := by cases r with
        | nil => rfl
        | node a b c => simp [Tr.mk1] at e
      subst hl hr'
      have : ((Tr.node .nil k .nil).mark room) = (1, 1) := rfl
      simp [tie, this, nil0]
      omega
    · obtain ⟨m1, m2⟩ := maxI_in ((l.mk1 room ++ r.mk1 room).map (·.1)) (by simpa using e)
      have hM : 1 ≤ maxI ((l.mk1 room ++ r.mk1 room).map (·.1)) := by
        obtain ⟨p, h1, h2⟩ := List.mem_map.mp m1
        have := hp p h1
        omega
      generalize hm : maxI ((l.mk1 room ++ r.mk1 room).map (·.1)) = M at *
      have hru : ruleM (l.mk1 room ++ r.mk1 room) room = if 1 + (((l.mk1 room ++ r.mk1 room).filter fun p => decide (p.1 = M)).map (·.2)).sum ≤ room then (M, 1 + (((l.mk1 room ++ r.mk1 room).filter fun p => decide (p.1 = M)).map (·.2)).sum) else (M + 1, 1) := by
        unfold ruleM; rw [if_neg e]; dsimp only; rw [hm]
      have hsum : (((l.mk1 room ++ r.mk1 room).filter fun p => decide (p.1 = M)).map (·.2)).sum = (if (l.mark room).1 = M then (l.mark room).2 else 0) + (if (r.mark room).1 = M then (r.mark room).2 else 0) := by
        rw [List.filter_append, List.map_append, List.sum_append, sd l M hM, sd r M hM]
        have s1 : ∀ u : Tr, (if (u.mark room).1 = M then (match u with | .nil => ([] : List Int) | .node .. => [(u.mark room).2]) else []).sum = if (u.mark room).1 = M then (u.mark room).2 else 0 := fun u => by
          cases u with
          | nil =>
            have : ¬ (Tr.nil.mark room).1 = M := by rw [nil0]; omega
            simp [this]
          | node a b c => by_cases h : ((Tr.node a b c).mark room).1 = M <;> simp [h]
        rw [s1, s1]
      rw [hsum] at hru
      rw [hru] at key
      have lu : ∀ u : Tr, (u = l ∨ u = r) → (u.mark room).1 ≤ M := fun u hu => by
        cases u with
        | nil => rw [nil0]; omega
        | node a b c =>
          refine m2 _ (List.mem_map.mpr ⟨(Tr.node a b c).mark room, ?_, rfl⟩)
          rcases hu with rfl | rfl
          · simp [Tr.mk1]
          · simp [Tr.mk1]
      by_cases hs : 1 + ((if (l.mark room).1 = M then (l.mark room).2 else 0) + (if (r.mark room).1 = M then (r.mark room).2 else 0)) ≤ room
      · rw [if_pos hs] at key
        have tl : tie room l k r l = decide ((l.mark room).1 = M) := by unfold tie; rw [key]
        have tr : tie room l k r r = decide ((r.mark room).1 = M) := by unfold tie; rw [key]
        rw [tl, tr, key]
        simp only [decide_eq_true_eq]
        constructor <;> omega
      · rw [if_neg hs] at key
        have h1 := lu l (.inl rfl)
        have h2 := lu r (.inr rfl)
        have tl : tie room l k r l = false := by unfold tie; rw [key]; exact decide_eq_false (by show ¬ _ = M + 1; omega)
        have tr : tie room l k r r = false := by unfold tie; rw [key]; exact decide_eq_false (by show ¬ _ = M + 1; omega)
        rw [tl, tr, key]
        simp
        omega
end K57L
namespace K57L
open PySem L2 L3
theorem er_size {room : Int} (hr : 1 ≤ room) : ∀ (t : Tr) (e : Int × List Int), e ∈ er room t → (e.2.length : Int) ≤ room
  | .nil, e, h => by simp [er] at h
  | .node l k r, e, h => by
    have side : ∀ (u : Tr) (b : Bool), (∀ e ∈ er room u, (e.2.length : Int) ≤ room) → e ∈ er room u ++ (if b = true then [] else u.key?.map fun c => (c, hd room u)) → (e.2.length : Int) ≤ room := fun u b ih h => by
      rcases List.mem_append.mp h with h | h
      · exact ih e h
      · cases b with
        | true => cases h
        | false =>
          obtain ⟨c, _, rfl⟩ := List.mem_map.mp (show e ∈ u.key?.map fun c => (c, hd room u) from h)
          exact (hd_size hr u).2
    rw [er] at h
    rcases List.mem_append.mp h with h | h
    · exact side l _ (er_size hr l) h
    · exact side r _ (er_size hr r) h
theorem en_size {room : Int} (hr : 1 ≤ room) {t : Tr} {e : Int × List Int} (h : e ∈ en room t) : (e.2.length : Int) ≤ room := by
  rcases List.mem_append.mp h with h | h
  · exact er_size hr t e h
  · obtain ⟨c, _, rfl⟩ := List.mem_map.mp h
    exact (hd_size hr t).2
def lev (room : Int) (t : Tr) : Int := (t.mark room).1
theorem lev_pos (room : Int) {t : Tr} (h : t ≠ .nil) : 1 ≤ lev room t := by
  cases t with
  | nil => exact absurd rfl h
  | node l k r => exact mark_pos room (.node l k r) _ (by simp [Tr.mk1])
theorem lev_rule (room : Int) (l : Tr) (k : Int) (r : Tr) :
    (∀ u, (u = l ∨ u = r) → u ≠ .nil → (tie room l k r u = true → lev room u = lev room (.node l k r)) ∧ (tie room l k r u = false → lev room u + 1 ≤ lev room (.node l k r))) ∧
    ((l = .nil ∧ r = .nil ∧ lev room (.node l k r) = 1) ∨ ∃ u, (u = l ∨ u = r) ∧ u ≠ .nil ∧ (tie room l k r u = true ∨ lev room u + 1 = lev room (.node l k r))) := by
  have key : ((Tr.node l k r).mark room) = ruleM (l.mk1 room ++ r.mk1 room) room := Tr.mark_node room l k r
  have mem : ∀ u, (u = l ∨ u = r) → u ≠ .nil → u.mark room ∈ l.mk1 room ++ r.mk1 room := fun u hu hn => by
    cases u with
    | nil => exact absurd rfl hn
    | node a b c =>
      rcases hu with rfl | rfl
      · simp [Tr.mk1]
      · simp [Tr.mk1]
  by_cases e : l.mk1 room ++ r.mk1 room = []
  · have hl : l = .nil := by cases l with
      | nil => rfl
      | node a b c => simp [Tr.mk1] at e
    have hr' : r = .nil := by cases r with
      | nil => rfl
      | node a b c => simp [Tr.mk1] at e
    subst hl hr'
    refine ⟨fun u hu hn => ?_, .inl ⟨rfl, rfl, rfl⟩⟩
    rcases hu with rfl | rfl <;> exact absurd rfl hn
  · obtain ⟨m1, m2⟩ := maxI_in ((l.mk1 room ++ r.mk1 room).map (·.1)) (by simpa using e)
    have hle : ∀ u, (u = l ∨ u = r) → u ≠ .nil → lev room u ≤ maxI ((l.mk1 room ++ r.mk1 room).map (·.1)) := fun u hu hn => m2 _ (List.mem_map.mpr ⟨_, mem u hu hn, rfl⟩)
    have hex : ∃ u, (u = l ∨ u = r) ∧ u ≠ .nil ∧ lev room u = maxI ((l.mk1 room ++ r.mk1 room).map (·.1)) := by
      obtain ⟨p, h1, h2⟩ := List.mem_map.mp m1
      rcases List.mem_append.mp h1 with h | h
      · cases l with
        | nil => simp [Tr.mk1] at h
        | node a b c => simp [Tr.mk1] at h; subst h; exact ⟨_, .inl rfl, (fun z => nomatch z), h2⟩
      · cases r with
        | nil => simp [Tr.mk1] at h
        | node a b c => simp [Tr.mk1] at h; subst h; exact ⟨_, .inr rfl, (fun z => nomatch z), h2⟩
    have hlv : lev room (.node l k r) = maxI ((l.mk1 room ++ r.mk1 room).map (·.1)) ∨ lev room (.node l k r) = maxI ((l.mk1 room ++ r.mk1 room).map (·.1)) + 1 := by
      unfold lev
      rw [key]
      unfold ruleM
      rw [if_neg e]
      dsimp only
      split
      · exact .inl rfl
      · exact .inr rfl
    have tie_iff : ∀ u, tie room l k r u = decide (lev room u = lev room (.node l k r)) := fun u => rfl
    refine ⟨fun u hu hn => ⟨fun h => ?_, fun h => ?_⟩, .inr ?_⟩
    · rw [tie_iff] at h; exact of_decide_eq_true h
    · rw [tie_iff] at h
      have h := of_decide_eq_false h
      have := hle u hu hn
      omega
    · obtain ⟨u, h1, h2, h3⟩ := hex
      refine ⟨u, h1, h2, ?_⟩
      rcases hlv with h | h
      · exact .inl (by rw [tie_iff]; exact decide_eq_true (by omega))
      · exact .inr (by omega)
def top1 : Tr → Int
  | .nil => 0
  | .node _ k _ => k
def idf (room a : Int) : Tr → Int → Int
  | .nil, _ => a
  | .node l k r, x => if x = k then a else if x ∈ l.keys then idf room (if tie room l k r l then a else top1 l) l x else idf room (if tie room l k r r then a else top1 r) r x
theorem idf_top (room a : Int) {t : Tr} (h : t ≠ .nil) : idf room a t (top1 t) = a := by
  cases t with
  | nil => exact absurd rfl h
  | node l k r => simp [idf, top1]
theorem ne_of_mem {t : Tr} {x : Int} (h : x ∈ t.keys) : t ≠ .nil := fun z => by rw [z] at h; simp [Tr.keys] at h
theorem key_top {t : Tr} (h : t ≠ .nil) : t.key? = [top1 t] := by
  cases t with
  | nil => exact absurd rfl h
  | node l k r => rfl
theorem idf_page (room : Int) : ∀ (t : Tr) (a x : Int), t.keys.Nodup → x ∈ t.keys → ∃ p, (idf room a t x, p) ∈ er room t ++ [(a, hd room t)] ∧ x ∈ p
  | .nil, a, x, _, h => by simp [Tr.keys] at h
  | .node l k r, a, x, hn, h => by
    obtain ⟨n1, n2, n3, n4, n5⟩ := nd_node hn
    rw [idf]
    by_cases hx : x = k
    · rw [if_pos hx]
      exact ⟨_, List.mem_append_right _ (.head _), by rw [hx]; exact hd_top⟩
    · rw [if_neg hx]
      have side : ∀ u, (u = l ∨ u = r) → x ∈ u.keys → (∃ p, (idf room (if tie room l k r u then a else top1 u) u x, p) ∈ er room u ++ [(if tie room l k r u then a else top1 u, hd room u)] ∧ x ∈ p) →
          ∃ p, (idf room (if tie room l k r u then a else top1 u) u x, p) ∈ er room (.node l k r) ++ [(a, hd room (.node l k r))] ∧ x ∈ p := fun u hu hxu ⟨p, hp, hxp⟩ => by
        have sub : ∀ e, e ∈ er room u ++ (if tie room l k r u = true then [] else u.key?.map fun c => (c, hd room u)) → e ∈ er room (.node l k r) := fun e he => by
          rw [er]
          rcases hu with rfl | rfl
          · exact List.mem_append_left _ he
          · exact List.mem_append_right _ he
        rcases List.mem_append.mp hp with hp | hp
        · exact ⟨p, List.mem_append_left _ (sub _ (List.mem_append_left _ hp)), hxp⟩
        · rw [List.mem_singleton] at hp
          by_cases ht : tie room l k r u = true
          · rw [if_pos ht] at hp ⊢
            have e1 := (Prod.mk.inj hp).1
            have e2 := (Prod.mk.inj hp).2
            refine ⟨hd room (.node l k r), List.mem_append_right _ (by rw [e1]; exact .head _), ?_⟩
            rw [hd]
            rw [e2] at hxp
            rcases hu with rfl | rfl
            · rw [if_pos ht]; simp [hxp]
            · rw [if_pos ht]; simp [hxp]
          · rw [if_neg ht] at hp ⊢
            refine ⟨p, List.mem_append_left _ (sub _ (List.mem_append_right _ ?_)), hxp⟩
            rw [if_neg ht, hp, key_top (ne_of_mem hxu)]
            exact .head _
      by_cases hl : x ∈ l.keys
      · rw [if_pos hl]
        exact side l (.inl rfl) hl (idf_page room l _ x n1 hl)
      · rw [if_neg hl]
        have hxr : x ∈ r.keys := by
          simp only [Tr.keys, List.mem_append, List.mem_singleton] at h
          rcases h with (h | h) | h
          · exact absurd h hl
          · exact absurd h hx
          · exact h
        exact side r (.inr rfl) hxr (idf_page room r _ x n2 hxr)
def pid (room : Int) (t : Tr) (x : Int) : Int := idf room (top1 t) t x
theorem pid_page (room : Int) {t : Tr} {x : Int} (hn : t.keys.Nodup) (h : x ∈ t.keys) : ∃ p, (pid room t x, p) ∈ en room t ∧ x ∈ p := by
  obtain ⟨p, h1, h2⟩ := idf_page room t (top1 t) x hn h
  exact ⟨p, by unfold en; rw [key_top (ne_of_mem h)]; exact h1, h2⟩
theorem lkP_of' : ∀ {D : PTab} {c : Int} {p : List Int}, (D.map (·.1)).Nodup → (c, p) ∈ D → lkP D c = p
  | e :: D, c, p, hn, h => by
    obtain ⟨h1, h2⟩ := List.nodup_cons.mp (show (e.1 :: D.map (·.1)).Nodup from hn)
    unfold lkP
    rw [List.find?_cons]
    rcases List.mem_cons.mp h with e1 | h'
    · subst e1; simp
    · have hne : ¬ e.1 = c := fun z => h1 (by rw [z]; exact List.mem_map.mpr ⟨_, h', rfl⟩)
      simp only [hne, decide_false]
      exact lkP_of' h2 h'
theorem pair_one {α : Type} {R : α → α → Prop} {l : List α} (h : l.Pairwise R) {a b : α} (ha : a ∈ l) (hb : b ∈ l) (hne : a ≠ b) : R a b ∨ R b a := by
  obtain ⟨i, hi, rfl⟩ := List.getElem_of_mem ha
  obtain ⟨j, hj, rfl⟩ := List.getElem_of_mem hb
  rw [List.pairwise_iff_getElem] at h
  rcases Nat.lt_trichotomy i j with c | c | c
  · exact .inl (h i j hi hj c)
  · subst c; exact absurd rfl hne
  · exact .inr (h j i hj hi c)
theorem en_one {room : Int} {t : Tr} (hn : t.keys.Nodup) {e e' : Int × List Int} (h : e ∈ en room t) (h' : e' ∈ en room t) {x : Int} (hx : x ∈ e.2) (hx' : x ∈ e'.2) : e = e' := by
  by_cases c : e = e'
  · exact c
  · have := (en_flat room t).nodup_iff.mpr hn
    rw [List.Nodup, List.pairwise_flatten] at this
    rcases pair_one (List.pairwise_map.mp this.2) h h' c with z | z
    · exact absurd rfl (z x hx x hx')
    · exact absurd rfl (z x hx' x hx)
structure Laid (room : Int) (t : Tr) (L : List (List Int)) : Prop where
  perm : L.Perm (((en room t).map (·.2)).map so)
  nd : t.keys.Nodup
theorem flat_so : ∀ ps : List (List Int), (ps.map so).flatten.Perm ps.flatten
  | [] => .refl _
  | p :: ps => by rw [List.map_cons, List.flatten_cons, List.flatten_cons]; exact (so_perm p).append (flat_so ps)
theorem Laid.flat {room : Int} {t : Tr} {L : List (List Int)} (h : Laid room t L) : L.flatten.Perm t.keys :=
  (h.perm.flatten.trans (flat_so _)).trans (en_flat room t)
theorem Laid.len {room : Int} {t : Tr} {L : List (List Int)} (h : Laid room t L) : L.length = (en room t).length := by
  have := h.perm.length_eq
  rwa [List.length_map, List.length_map] at this
theorem Laid.at_ {room : Int} {t : Tr} {L : List (List Int)} (h : Laid room t L) {p : List Int} {c : Int} (hp : (c, p) ∈ en room t) : ∃ i, i < L.length ∧ L.getD i [] = so p := by
  have : so p ∈ L := h.perm.mem_iff.mpr (List.mem_map.mpr ⟨p, List.mem_map.mpr ⟨_, hp, rfl⟩, rfl⟩)
  obtain ⟨i, hi, e⟩ := List.getElem_of_mem this
  exact ⟨i, hi, by rw [List.getD_eq_getElem?_getD, List.getElem?_eq_getElem hi]; exact e⟩
theorem Laid.home {room : Int} {t : Tr} {L : List (List Int)} (h : Laid room t L) {x y : Int} (hx : x ∈ t.keys) (hy : y ∈ t.keys) : numP L x = numP L y ↔ pid room t x = pid room t y := by
  have hf : L.flatten.Nodup := h.flat.nodup_iff.mpr h.nd
  obtain ⟨p, h1, h2⟩ := pid_page room h.nd hx
  obtain ⟨q, h3, h4⟩ := pid_page room h.nd hy
  obtain ⟨i, i1, i2⟩ := h.at_ h1
  obtain ⟨j, j1, j2⟩ := h.at_ h3
  have ex : numP L x = i := numP_is hf (by rw [i2]; exact (so_perm p).mem_iff.mpr h2)
  have ey : numP L y = j := numP_is hf (by rw [j2]; exact (so_perm q).mem_iff.mpr h4)
  constructor
  · intro e
    have hij : i = j := by omega
    subst hij
    have hxq : x ∈ q := (so_perm q).mem_iff.mp (by rw [← j2, i2]; exact (so_perm p).mem_iff.mpr h2)
    exact (Prod.mk.inj (en_one h.nd h1 h3 h2 hxq)).1
  · intro e
    have hpq : p = q := by
      have hyp : y ∈ q := h4
      rw [← e] at h3
      have hne := en_nodup (room := room) h.nd
      have := lkP_of' hne h1
      have := lkP_of' hne h3
      simp_all
    subst hpq
    have := numP_is hf (y := y) (i := i) (by rw [i2]; exact (so_perm p).mem_iff.mpr h4)
    omega
end K57L
namespace K57L
open PySem L2 L3
def meL (h : Int → Nat) : List Nat → Tr → List Nat
  | _, .nil => []
  | M, .node l k r => (M ++ (if h k ∈ M then [] else [h k])).length :: (meL h (M ++ (if h k ∈ M then [] else [h k])) l ++ meL h (M ++ (if h k ∈ M then [] else [h k])) r)
def Parts (h : Int → Nat) (P : Int → Int) (T : List Int) : Prop := ∀ x ∈ T, ∀ y ∈ T, (h x = h y ↔ P x = P y)
theorem top_mem {t : Tr} (h : t ≠ .nil) : top1 t ∈ t.keys := by
  cases t with
  | nil => exact absurd rfl h
  | node l k r => simp [top1, Tr.keys]
theorem me_max (h : Int → Nat) (P : Int → Int) (T : List Int) (hh : Parts h P T) (room : Int) : ∀ (u : Tr) (a : Int) (M : List Nat), u ≠ .nil → u.keys.Nodup → (∀ x ∈ u.keys, x ∈ T ∧ P x = idf room a u x) → (∀ m ∈ M, ∃ y ∈ T, m = h y ∧ P y ∉ u.keys) → (a = top1 u ∨ (a ∉ u.keys ∧ h (top1 u) ∈ M)) →
    (∀ n ∈ meL h M u, (n : Int) ≤ ((M ++ (if h (top1 u) ∈ M then [] else [h (top1 u)])).length : Int) - 1 + lev room u) ∧ ∃ n ∈ meL h M u, (n : Int) = ((M ++ (if h (top1 u) ∈ M then [] else [h (top1 u)])).length : Int) - 1 + lev room u
  | .nil, _, _, hu, _, _, _, _ => absurd rfl hu
  | .node l k r, a, M, _, hn, hP, hM, ha => by
    obtain ⟨n1, n2, n3, n4, n5⟩ := nd_node hn
    have hk : k ∈ (Tr.node l k r).keys := by simp [Tr.keys]
    have hPk : P k = a := by rw [(hP k hk).2, idf, if_pos rfl]
    have hkT := (hP k hk).1
    have hlp := lev_pos room (t := .node l k r) (fun z => nomatch z)
    obtain ⟨R1, R2⟩ := lev_rule room l k r
    show (∀ n ∈ meL h M (.node l k r), (n : Int) ≤ ((M ++ (if h k ∈ M then [] else [h k])).length : Int) - 1 + lev room (.node l k r)) ∧ ∃ n ∈ meL h M (.node l k r), (n : Int) = ((M ++ (if h k ∈ M then [] else [h k])).length : Int) - 1 + lev room (.node l k r)
    rw [meL]
    generalize hM' : M ++ (if h k ∈ M then [] else [h k]) = M' at *
    have hkM : h k ∈ M' := by
      rw [← hM']
      by_cases c : h k ∈ M
      · simp [c]
      · simp [c]
    have ctx : ∀ v : Tr, (∀ y ∈ v.keys, y ∈ (Tr.node l k r).keys) → k ∉ v.keys → (∀ m ∈ M', ∃ y ∈ T, m = h y ∧ P y ∉ v.keys) ∧ a ∉ v.keys := fun v sub kv => by
      have av : a ∉ v.keys := fun hav => by
        rcases ha with z | z
        · rw [z] at hav; exact kv hav
        · exact z.1 (sub a hav)
      refine ⟨fun m hm => ?_, av⟩
      rw [← hM'] at hm
      rcases List.mem_append.mp hm with hm | hm
      · obtain ⟨y, h1, h2, h3⟩ := hM m hm
        exact ⟨y, h1, h2, fun z => h3 (sub _ z)⟩
      · split at hm
        · cases hm
        · rw [List.mem_singleton] at hm
          exact ⟨k, hkT, hm, by rw [hPk]; exact av⟩
    have kid : ∀ v : Tr, (v = l ∨ v = r) → v ≠ .nil → (∀ y ∈ v.keys, y ∈ (Tr.node l k r).keys) → k ∉ v.keys → (∀ x ∈ v.keys, x ∈ T ∧ P x = idf room (if tie room l k r v then a else top1 v) v x) →
        (∀ a' M'', (∀ x ∈ v.keys, x ∈ T ∧ P x = idf room a' v x) → (∀ m ∈ M'', ∃ y ∈ T, m = h y ∧ P y ∉ v.keys) → (a' = top1 v ∨ (a' ∉ v.keys ∧ h (top1 v) ∈ M'')) →
          (∀ n ∈ meL h M'' v, (n : Int) ≤ ((M'' ++ (if h (top1 v) ∈ M'' then [] else [h (top1 v)])).length : Int) - 1 + lev room v) ∧ ∃ n ∈ meL h M'' v, (n : Int) = ((M'' ++ (if h (top1 v) ∈ M'' then [] else [h (top1 v)])).length : Int) - 1 + lev room v) →
        (∀ n ∈ meL h M' v, (n : Int) ≤ (M'.length : Int) - 1 + lev room (.node l k r)) ∧ ((tie room l k r v = true ∨ lev room v + 1 = lev room (.node l k r)) → ∃ n ∈ meL h M' v, (n : Int) = (M'.length : Int) - 1 + lev room (.node l k r)) := fun v hv hvn sub kv hPv ih => by
      obtain ⟨c1, c2⟩ := ctx v sub kv
      have htv := top_mem hvn
      have hPt := (hPv _ htv).2
      rw [idf_top room _ hvn] at hPt
      obtain ⟨r1, r2⟩ := R1 v hv hvn
      cases ht : tie room l k r v with
      | true =>
        rw [ht, if_pos rfl] at hPt
        rw [ht, if_pos rfl] at hPv
        have hin : h (top1 v) ∈ M' := by
          have : h (top1 v) = h k := (hh _ (hPv _ htv).1 k hkT).mpr (by rw [hPt, hPk])
          rw [this]; exact hkM
        obtain ⟨i1, i2⟩ := ih a M' hPv c1 (.inr ⟨c2, hin⟩)
        rw [if_pos hin, List.append_nil] at i1 i2
        rw [r1 ht] at i1 i2
        exact ⟨i1, fun _ => i2⟩
      | false =>
        rw [ht, if_neg Bool.false_ne_true] at hPt
        rw [ht, if_neg Bool.false_ne_true] at hPv
        have hout : h (top1 v) ∉ M' := fun hm => by
          obtain ⟨y, h1, h2, h3⟩ := c1 _ hm
          have := (hh _ (hPv _ htv).1 y h1).mp h2
          rw [hPt] at this
          exact h3 (by rw [← this]; exact htv)
        obtain ⟨i1, i2⟩ := ih (top1 v) M' hPv c1 (.inl rfl)
        rw [if_neg hout, List.length_append, List.length_singleton] at i1 i2
        have r2 := r2 ht
        refine ⟨fun n hn => ?_, fun hor => ?_⟩
        · have := i1 n hn
          omega
        · obtain ⟨n, hn, e⟩ := i2
          refine ⟨n, hn, ?_⟩
          rcases hor with z | z
          · cases z
          · omega
    have Pl : ∀ x ∈ l.keys, x ∈ T ∧ P x = idf room (if tie room l k r l then a else top1 l) l x := fun x hx => by
      have hx' : x ∈ (Tr.node l k r).keys := by simp [Tr.keys, hx]
      refine ⟨(hP x hx').1, ?_⟩
      rw [(hP x hx').2, idf, if_neg (fun z => n3 (by rw [← z]; exact hx)), if_pos hx]
    have Pr : ∀ x ∈ r.keys, x ∈ T ∧ P x = idf room (if tie room l k r r then a else top1 r) r x := fun x hx => by
      have hx' : x ∈ (Tr.node l k r).keys := by simp [Tr.keys, hx]
      refine ⟨(hP x hx').1, ?_⟩
      rw [(hP x hx').2, idf, if_neg (fun z => n4 (by rw [← z]; exact hx)), if_neg (fun hl => n5 x hl hx)]
    have Kl := fun hne => kid l (.inl rfl) hne (fun y hy => by simp [Tr.keys, hy]) n3 Pl fun a' M'' h1 h2 h3 => me_max h P T hh room l a' M'' hne n1 h1 h2 h3
    have Kr := fun hne => kid r (.inr rfl) hne (fun y hy => by simp [Tr.keys, hy]) n4 Pr fun a' M'' h1 h2 h3 => me_max h P T hh room r a' M'' hne n2 h1 h2 h3
    constructor
    · intro n hn
      rcases List.mem_cons.mp hn with rfl | hn
      · omega
      · rcases List.mem_append.mp hn with hn | hn
        · by_cases hl : l = .nil
          · rw [hl] at hn; simp [meL] at hn
          · exact (Kl hl).1 n hn
        · by_cases hr : r = .nil
          · rw [hr] at hn; simp [meL] at hn
          · exact (Kr hr).1 n hn
    · rcases R2 with ⟨_, _, e⟩ | ⟨u, hu, hun, hor⟩
      · exact ⟨_, .head _, by omega⟩
      · rcases hu with rfl | rfl
        · obtain ⟨n, hn, e⟩ := (Kl hun).2 hor
          exact ⟨n, .tail _ (List.mem_append_left _ hn), e⟩
        · obtain ⟨n, hn, e⟩ := (Kr hun).2 hor
          exact ⟨n, .tail _ (List.mem_append_right _ hn), e⟩
end K57L
namespace K57L
open PySem L2 L3
theorem page_of {room : Int} {t : Tr} {L : List (List Int)} (hl : Laid room t L) {p : List Int} (hp : p ∈ L) : ∃ e ∈ en room t, p = so e.2 := by
  obtain ⟨q, hq, rfl⟩ := List.mem_map.mp (hl.perm.mem_iff.mp hp)
  obtain ⟨e, he, rfl⟩ := List.mem_map.mp hq
  exact ⟨e, he, rfl⟩
theorem page_len {room : Int} (hr : 1 ≤ room) {t : Tr} {L : List (List Int)} (hl : Laid room t L) {p : List Int} (hp : p ∈ L) : 1 ≤ p.length ∧ (p.length : Int) ≤ room := by
  obtain ⟨e, he, rfl⟩ := page_of hl hp
  rw [(so_perm e.2).length_eq]
  exact ⟨List.length_pos_of_mem (en_top he), en_size hr he⟩
theorem met_max {room : Int} {t : Tr} {L : List (List Int)} (hl : Laid room t L) (hne : t ≠ .nil) {M : Int} (h1 : M ∈ (meL (numP L) [] t).map fun m : Nat => (m : Int)) (h2 : ∀ x ∈ (meL (numP L) [] t).map fun m : Nat => (m : Int), x ≤ M) : M = (t.mark room).1 := by
  obtain ⟨a, n, hn, b⟩ := me_max (numP L) (pid room t) t.keys (fun x hx y hy => hl.home hx hy) room t (top1 t) [] hne hl.nd (fun x hx => ⟨hx, rfl⟩) (fun m hm => by cases hm) (.inl rfl)
  simp only [List.not_mem_nil, if_false, List.nil_append, List.length_singleton] at a b
  obtain ⟨m, hm, rfl⟩ := List.mem_map.mp h1
  have h3 := a m hm
  have h4 := h2 n (List.mem_map.mpr ⟨n, hn, rfl⟩)
  unfold lev at *
  omega
end K57L
namespace K57B
open PySem L2 L3 K57
def wo (h : Int → Int) : List Int → Tr → Nat
  | M, .nil => M.length
  | M, .node l k r => max (wo h (ddS M (h k)) l) (wo h (ddS M (h k)) r)
theorem dd_ge (M : List Int) (x : Int) : M.length ≤ (ddS M x).length := by
  unfold ddS
  split
  · exact Nat.le_refl _
  · rw [List.length_append]; omega
theorem wo_ge (h : Int → Int) : ∀ (t : Tr) (M : List Int), M.length ≤ wo h M t
  | .nil, M => Nat.le_refl _
  | .node l k r, M => by
    have h1 := wo_ge h l (ddS M (h k))
    have h2 := dd_ge M (h k)
    rw [wo]; omega
theorem wo_way (h : Int → Int) : ∀ (t : Tr) (lo hi : Option Int), t.ord lo hi → ∀ (M : List Int) (f : Int), f ∈ t.keys → (((way f t).map h).foldl ddS M).length ≤ wo h M t
  | .nil, _, _, _, M, f, hf => by simp [Tr.keys] at hf
  | .node l x r, lo, hi, ho, M, f, hf => by
    obtain ⟨g1, g2⟩ := ord_lr ho
    simp only [Tr.keys, List.mem_append, List.mem_singleton] at hf
    rw [way, wo]
    by_cases hx : x = f
    · rw [if_pos hx]
      have := wo_ge h l (ddS M (h x))
      subst hx
      show (ddS M (h x)).length ≤ _
      omega
    · rw [if_neg hx, List.map_cons, List.foldl_cons]
      by_cases hlt : f < x
      · rw [if_pos hlt]
        have hin : f ∈ l.keys := by
          rcases hf with (hf | hf) | hf
          · exact hf
          · omega
          · have := g2 f hf; omega
        have := wo_way h l _ _ ho.2.2.1 (ddS M (h x)) f hin
        omega
      · rw [if_neg hlt]
        have hin : f ∈ r.keys := by
          rcases hf with (hf | hf) | hf
          · have := g1 f hf; omega
          · omega
          · exact hf
        have := wo_way h r _ _ ho.2.2.2 (ddS M (h x)) f hin
        omega
def LayP (pss : List (List Int)) (t : Tr) (room : Nat) : Prop := pss.flatten.Nodup ∧ (∀ y, y ∈ pss.flatten ↔ y ∈ t.keys) ∧ ∀ q ∈ pss, q.length ≤ room
def pgOf (pss : List (List Int)) (k : Int) : List Int := pss.getD (numP pss k) []
def hm (pss : List (List Int)) (y : Int) : Int := (numP pss y : Int)
theorem LayP.page {pss : List (List Int)} {t : Tr} {room : Nat} (h : LayP pss t room) {k : Int} (hk : k ∈ t.keys) : k ∈ pgOf pss k ∧ (pgOf pss k).length ≤ room := by
  obtain ⟨h1, h2⟩ := numP_lt ((h.2.1 k).mpr hk)
  refine ⟨h2, h.2.2 _ ?_⟩
  unfold pgOf
  rw [List.getD_eq_getElem?_getD, List.getElem?_eq_getElem h1]
  exact List.getElem_mem h1
def Led (pss : List (List Int)) (t : Tr) : Nat → D → Int → Prop
  | 0, d, f => d = knotD f
  | m + 1, d, f => ∃ k ds d', d = partD k ds ∧ d' ∈ ds ∧ Clr t (pgOf pss k) (keyD d') ∧ Led pss t m d' f
theorem led_ex {pss : List (List Int)} {t : Tr} {room : Nat} (L : LayP pss t room) (ho : t.ord none none) (hr : 1 ≤ room) : ∀ {m : Nat} {d : D} {k : Int}, Val room t m d k → ∃ f, Led pss t m d f
  | 0, d, k, hv => ⟨k, hv.1⟩
  | m + 1, d, k, hv => by
    have hv0 := hv
    obtain ⟨ds, ks, rfl, hk, _⟩ := hv
    obtain ⟨m', e, _, _, _, hvv, _, _⟩ := val_part hv0
    cases e
    obtain ⟨h1, h2⟩ := L.page hk
    obtain ⟨d', hd, hc⟩ := clr_ex ho hv0 hr h2 h1
    obtain ⟨f, hf⟩ := led_ex L ho hr (hvv d' hd)
    exact ⟨f, k, ds, d', rfl, hd, hc, hf⟩
theorem led_pages {pss : List (List Int)} {t : Tr} {room : Nat} (L : LayP pss t room) (ho : t.ord none none) : ∀ {m : Nat} {d : D} {k f : Int}, Val room t m d k → Led pss t m d f →
    f ∈ (at_ k t).keys ∧ ∃ ns : List Int, ns.length = m + 1 ∧ ns.Nodup ∧ ∀ n ∈ ns, ∃ y, y ∈ way f t ∧ y ∈ (at_ k t).keys ∧ n = (numP pss y : Int)
  | 0, d, k, f, hv, hl => by
    obtain ⟨rfl, hk⟩ := hv
    have e : keyD (knotD k) = keyD (knotD f) := by rw [hl]
    have e : k = f := e
    subst e
    have hs := at_has ho hk
    exact ⟨hs, [(numP pss k : Int)], rfl, by simp, fun n hn => ⟨k, (on_way k t none none ho hk k hk).mpr hs, hs, by simpa using hn⟩⟩
  | m + 1, d, k, f, hv, hl => by
    obtain ⟨k2, ds, d', rfl, hd, hc, hled⟩ := hl
    obtain ⟨m', e, rfl, hk, _, hvv, hb, _⟩ := val_part hv
    cases e
    obtain ⟨hf, ns, h1, h2, h3⟩ := led_pages L ho (hvv d' hd) hled
    have hdt := val_in (hvv d' hd)
    have hfk := at_trans ho hk (hb d' hd).2 hf
    refine ⟨hfk, (numP pss k : Int) :: ns, by rw [List.length_cons, h1], List.nodup_cons.mpr ⟨fun hn => ?_, h2⟩, fun n hn => ?_⟩
    · obtain ⟨y, _, hy, he⟩ := h3 _ hn
      have he : numP pss k = numP pss y := by omega
      have hyt := at_sub _ t y hy
      obtain ⟨hyp, _⟩ := L.page hyt
      refine hc y ?_ hy
      unfold pgOf at hyp ⊢
      rw [he]; exact hyp
    · rcases List.mem_cons.mp hn with rfl | hn
      · exact ⟨k, (on_way k t none none ho hk f (at_sub k t f hfk)).mpr hfk, at_has ho hk, rfl⟩
      · obtain ⟨y, y1, y2, y3⟩ := h3 n hn
        exact ⟨y, y1, at_trans ho hk (hb d' hd).2 y2, y3⟩
theorem num_le {pss : List (List Int)} {t : Tr} {room : Nat} (L : LayP pss t room) (ho : t.ord none none) (hr : 1 ≤ room) {m : Nat} {d : D} {k : Int} (hv : Val room t m d k) : m + 1 ≤ wo (hm pss) [] t := by
  obtain ⟨f, hl⟩ := led_ex L ho hr hv
  obtain ⟨hf, ns, h1, h2, h3⟩ := led_pages L ho hv hl
  have h4 := wo_way (hm pss) t _ _ ho [] f (at_sub _ t f hf)
  have h5 : ns.length ≤ (dd ((way f t).map (hm pss))).length := nodup_len h2 fun n hn => by
    obtain ⟨y, y1, _, rfl⟩ := h3 n hn
    rw [dd_mem]
    exact List.mem_map.mpr ⟨y, y1, rfl⟩
  have h4 : (dd ((way f t).map (hm pss))).length ≤ wo (hm pss) [] t := h4
  omega
theorem wo_meL (h : Int → Nat) : ∀ (t : Tr) (M : List Nat), (∀ n ∈ K57L.meL h M t, n ≤ wo (fun y => (h y : Int)) (M.map fun m : Nat => (m : Int)) t) ∧ (t ≠ .nil → wo (fun y => (h y : Int)) (M.map fun m : Nat => (m : Int)) t ∈ K57L.meL h M t)
  | .nil, M => ⟨fun n hn => (by simp [K57L.meL] at hn), fun h => absurd rfl h⟩
  | .node l k r, M => by
    have e : ddS (M.map fun m : Nat => (m : Int)) (h k : Int) = (M ++ (if h k ∈ M then [] else [h k])).map fun m : Nat => (m : Int) := by
      unfold ddS
      have hi : (h k : Int) ∈ (M.map fun m : Nat => (m : Int)) ↔ h k ∈ M := by
        rw [List.mem_map]
        constructor
        · rintro ⟨x, hx, e⟩; rw [← Int.ofNat.inj e]; exact hx
        · intro hx; exact ⟨_, hx, rfl⟩
      by_cases c : h k ∈ M
      · rw [if_pos (hi.mpr c), if_pos c, List.append_nil]
      · rw [if_neg (fun z => c (hi.mp z)), if_neg c, List.map_append]; rfl
    obtain ⟨l1, l2⟩ := wo_meL h l (M ++ (if h k ∈ M then [] else [h k]))
    obtain ⟨r1, r2⟩ := wo_meL h r (M ++ (if h k ∈ M then [] else [h k]))
    have gl := wo_ge (fun y => (h y : Int)) l ((M ++ (if h k ∈ M then [] else [h k])).map fun m : Nat => (m : Int))
    rw [List.length_map] at gl
    rw [K57L.meL, wo, e]
    constructor
    · intro n hn
      rcases List.mem_cons.mp hn with rfl | hn
      · omega
      · rcases List.mem_append.mp hn with hn | hn
        · have := l1 n hn; omega
        · have := r1 n hn; omega
    · intro _
      have hl : wo (fun y => (h y : Int)) ((M ++ (if h k ∈ M then [] else [h k])).map fun m : Nat => (m : Int)) l ∈ (M ++ (if h k ∈ M then [] else [h k])).length :: (K57L.meL h (M ++ (if h k ∈ M then [] else [h k])) l ++ K57L.meL h (M ++ (if h k ∈ M then [] else [h k])) r) := by
        by_cases hn : l = .nil
        · rw [hn, wo, List.length_map]; exact List.mem_cons_self ..
        · exact List.mem_cons_of_mem _ (List.mem_append_left _ (l2 hn))
      have hr : wo (fun y => (h y : Int)) ((M ++ (if h k ∈ M then [] else [h k])).map fun m : Nat => (m : Int)) r ∈ (M ++ (if h k ∈ M then [] else [h k])).length :: (K57L.meL h (M ++ (if h k ∈ M then [] else [h k])) l ++ K57L.meL h (M ++ (if h k ∈ M then [] else [h k])) r) := by
        by_cases hn : r = .nil
        · rw [hn, wo, List.length_map]; exact List.mem_cons_self ..
        · exact List.mem_cons_of_mem _ (List.mem_append_right _ (r2 hn))
      rcases Nat.le_total (wo (fun y => (h y : Int)) ((M ++ (if h k ∈ M then [] else [h k])).map fun m : Nat => (m : Int)) l) (wo (fun y => (h y : Int)) ((M ++ (if h k ∈ M then [] else [h k])).map fun m : Nat => (m : Int)) r) with hc | hc
      · rw [Nat.max_eq_right hc]; exact hr
      · rw [Nat.max_eq_left hc]; exact hl
theorem lev_lay {room : Nat} (hr : 1 ≤ room) {t : Tr} (hne : t ≠ .nil) (hnd : t.keys.Nodup) : ∃ L, LayP L t room ∧ (wo (hm L) [] t : Int) = (t.mark (room : Int)).1 := by
  have hl : K57L.Laid (room : Int) t (((K57L.en (room : Int) t).map (·.2)).map K57L.so) := ⟨List.Perm.refl _, hnd⟩
  refine ⟨_, ⟨hl.flat.nodup_iff.mpr hnd, fun y => hl.flat.mem_iff, fun q hq => ?_⟩, ?_⟩
  · have := (K57L.page_len (by omega) hl hq).2; omega
  · obtain ⟨h1, h2⟩ := wo_meL (numP (((K57L.en (room : Int) t).map (·.2)).map K57L.so)) t []
    refine K57L.met_max hl hne (List.mem_map.mpr ⟨_, h2 hne, rfl⟩) fun x hx => ?_
    obtain ⟨m, hm', rfl⟩ := List.mem_map.mp hx
    have := h1 m hm'
    show (m : Int) ≤ (wo _ [] t : Int)
    exact Int.ofNat_le.mpr this
end K57B
namespace L3
open PySem PySem.Spec PyProof.Rows L2
theorem met_nodup (val : Nat → Int) : ∀ i, (firstMet val i).Nodup
  | 0 => by rw [firstMet_zero]; exact List.nodup_nil
  | i + 1 => by
    rw [firstMet_succ]
    have ih := met_nodup val i
    unfold step_dedup
    split
    · exact ih
    · rename_i h
      refine List.nodup_append.mpr ⟨ih, by simp, fun a ha b hb => ?_⟩
      rw [List.mem_singleton] at hb
      intro e
      apply h
      rw [List.any_eq_true]
      exact ⟨a, ha, by rw [e, hb]; simp⟩
theorem range_getD (ns : List Int) : (List.range ns.length).map (fun i => ns.getD i 0) = ns := by
  apply List.ext_getElem
  · simp
  · intro i h1 h2
    rw [List.getElem_map, List.getElem_range, List.getD_eq_getElem?_getD, List.getElem?_eq_getElem h2]; rfl
theorem met_one (ns : List Int) : 1 < (firstMet (fun i => ns.getD i 0) ns.length).length ↔ ∃ i ∈ ns, ∃ j ∈ ns, i ≠ j := by
  have hm : ∀ k, k ∈ firstMet (fun i => ns.getD i 0) ns.length ↔ k ∈ ns := fun k => by
    have := firstMet_any (fun i => ns.getD i 0) ns.length k
    rw [range_getD] at this
    have key : ∀ l : List Int, l.any (· == k) = true ↔ k ∈ l := fun l => by
      rw [List.any_eq_true]
      constructor
      · rintro ⟨x, hx, e⟩
        rw [← eq_of_beq e]; exact hx
      · intro h; exact ⟨k, h, by simp⟩
    rw [← key, ← key, this]
  have hn := met_nodup (fun i => ns.getD i 0) ns.length
  generalize firstMet (fun i => ns.getD i 0) ns.length = l at hm hn
  constructor
  · intro h
    match l, h, hn with
    | a :: b :: l, _, hn =>
      refine ⟨a, (hm a).mp (by simp), b, (hm b).mp (by simp), ?_⟩
      rw [List.nodup_cons] at hn
      intro e
      exact hn.1 (by rw [e]; simp)
  · rintro ⟨i, hi, j, hj, hne⟩
    have h1 := (hm i).mpr hi
    have h2 := (hm j).mpr hj
    match l, h1, h2 with
    | [a], h1, h2 =>
      rw [List.mem_singleton] at h1 h2
      exact absurd (h1.trans h2.symm) hne
    | a :: b :: l, _, _ => simp
section
variable {X : Cx}
def tLenSet (K : PySem.W.Frag) (ta : TA) : TE := fun σ H Q => ta σ H fun vs H1 => ∃ (a : Addr) (ns : List Int), vs = [.ref a] ∧ SqL K H1 a (ns.map V.int) ∧ ns.length ≤ 1000 ∧ ∀ m : Nat, (1 < m ↔ ∃ i ∈ ns, ∃ j ∈ ns, i ≠ j) → Q (.int (m : Int)) H1
theorem pe_lenSet {e : Expr} {ta : TA} {p1 p2 pos1 pos : Pos} (hc : X.calm = true) (hg : Gl X "len") (hm : X.mg "len" = none) (hg2 : Gl X "set") (hm2 : X.mg "set" = none) (ha : PA X [e] ta) (hs : starEach [e] X.env = [(false, eval e X.env)]) :
    PE X (.Call (.Name "len" p1) [.Call (.Name "set" p2) [e] [] pos1] [] pos) (tLenSet X.K ta) := by
  intro pins s σ H Q I h
  refine Call_ (ld_blt I hg hm bt_len (Calls.callWith_builtin rfl (Calls.evalArgs_plain (Calls.spliced_cons ?_))))
  refine Call_ (ld_blt I hg2 hm2 bt_set (PyProof.Rows.callWith_type1 (thn (ha pos1 pins s σ H _ I h) fun us s1 ⟨vs, H1, I1, r1, q1⟩ => ?_) hs rfl))
  obtain ⟨a, ns, e, hL, hlen, q⟩ := q1
  subst e
  obtain ⟨u, rfl, ru⟩ := vals1 r1
  cases ru
  obtain ⟨its, r, hl, hz⟩ := I1.list hL
  have hi : IntsAre its.toArray.toList ns := intsAre_of r
  have hl2 : its.length = ns.length := by have := r.length; rw [List.length_map] at this; exact this.symm
  have hl3 : its.toArray.size = ns.length := by rw [List.size_toArray, hl2]
  refine call_set_list (I1.ok.hd hc) hl.isList hi (by rw [hl3]; unfold scanBound; omega) fun h' tk hS hk => ?_
  rw [hl3] at hS
  refine Calls.spliced_nil ?_
  obtain ⟨o, es, ep, t, ho, hex, hd, _, _, hsc, hf, hn⟩ := hS
  have hm1 := met_one ns
  rw [← hn] at hm1
  refine call_len_set ho hex hd hf (by unfold scanBound at hsc; omega) ?_
  refine ⟨.int (es.size : Int), H1, I1.kept (t' := tk + 1 + 1) (fun b o e => hk b o (Heap.lt_size e) e), ⟨_, rfl⟩, q _ hm1⟩
theorem qLenSet {e : Expr} {ta : TA} {p1 p2 pos1 pos : Pos} (K : PySem.W.Frag) (hg : Gl X "len") (hm : X.mg "len" = none) (hg2 : Gl X "set") (hm2 : X.mg "set" = none) (ha : QA X [e] ta) (h : notStar e = true := by rfl) (hc : X.calm = true := by rfl) (hK : X.K = K := by rfl) :
    QE X (.Call (.Name "len" p1) [.Call (.Name "set" p2) [e] [] pos1] [] pos) (tLenSet K ta) := by
  subst hK
  exact .mk (pe_lenSet hc hg hm hg2 hm2 ha.un (by rw [star_cons h, star_nil]))
end
end L3
namespace K57B
open PySem L2 L3 K57
theorem mapI {cs : List Int} {i : Nat} {y : V} (h : (cs.map V.int)[i]? = some y) : ∃ c, cs[i]? = some c ∧ V.int c = y := by
  rw [List.getElem?_map] at h; exact Option.map_eq_some_iff.mp h
def onW (t : Tr) (c : Int) (x : Int) : Bool := decide (x ∈ way c t)
def Stand (t l r : Tr) (cs : List Int) : Prop := ∀ c ∈ cs, c ∈ l.keys ++ r.keys ∧ (cs.filter (onW t c)).length ≤ 1
instance (t l r : Tr) (cs : List Int) : Decidable (Stand t l r cs) := by unfold Stand; infer_instance
theorem filter_one {p : Int → Bool} : ∀ cs : List Int, (cs.filter p).length ≤ 1 ↔ cs.Pairwise (fun a b => ¬ (p a = true ∧ p b = true))
  | [] => by simp
  | a :: cs => by
    have ih := filter_one (p := p) cs
    rw [List.pairwise_cons, ← ih, List.filter_cons]
    by_cases ha : p a = true
    · rw [if_pos ha, List.length_cons]
      constructor
      · intro h
        have h0 : cs.filter p = [] := List.eq_nil_of_length_eq_zero (by omega)
        refine ⟨fun b hb z => ?_, by omega⟩
        have : b ∈ cs.filter p := List.mem_filter.mpr ⟨hb, z.2⟩
        rw [h0] at this
        cases this
      · rintro ⟨h, _⟩
        have h0 : cs.filter p = [] := List.filter_eq_nil_iff.mpr fun b hb z => h b hb ⟨ha, z⟩
        rw [h0]; exact Nat.le_refl _
    · rw [if_neg ha]
      exact ⟨fun h => ⟨fun b _ z => ha z.1, h⟩, fun h => h.2⟩
theorem stand_iff {t l r : Tr} {k : Int} (ho : t.ord none none) (hk : k ∈ t.keys) (hat : at_ k t = .node l k r) (cs : List Int) : Stand t l r cs ↔ (∀ c ∈ cs, c ≠ k ∧ c ∈ (at_ k t).keys) ∧ cs.Pairwise (Apart t) := by
  obtain ⟨lo, hi, hord⟩ := at_ord k t none none ho
  rw [hat] at hord
  have hb : ∀ c, c ∈ l.keys ++ r.keys ↔ c ≠ k ∧ c ∈ (at_ k t).keys := fun c => by
    rw [hat, Tr.keys, List.mem_append]
    constructor
    · rintro (h | h)
      · have := ord_l hord h
        exact ⟨by omega, by simp [h]⟩
      · have := ord_r hord h
        exact ⟨by omega, by simp [h]⟩
    · rintro ⟨h1, h2⟩
      simp only [List.mem_append, List.mem_singleton] at h2
      rcases h2 with (h2 | h2) | h2
      · exact .inl h2
      · exact absurd h2 h1
      · exact .inr h2
  unfold Stand
  constructor
  · intro h
    refine ⟨fun c hc => (hb c).mp (h c hc).1, ?_⟩
    have ht : ∀ c ∈ cs, c ∈ t.keys := fun c hc => at_sub k t c ((hb c).mp (h c hc).1).2
    have hp : ∀ c ∈ cs, cs.Pairwise (fun a b => ¬ (onW t c a = true ∧ onW t c b = true)) := fun c hc => (filter_one cs).mp (h c hc).2
    rw [List.pairwise_iff_getElem]
    intro i j hi hj hij
    have ma := List.getElem_mem hi
    have mb := List.getElem_mem hj
    have g1 := (List.pairwise_iff_getElem.mp (hp _ ma)) i j hi hj hij
    have g2 := (List.pairwise_iff_getElem.mp (hp _ mb)) i j hi hj hij
    have wa : onW t cs[i] cs[i] = true := decide_eq_true ((on_way _ t none none ho (ht _ ma) _ (ht _ ma)).mpr (at_has ho (ht _ ma)))
    have wb : onW t cs[j] cs[j] = true := decide_eq_true ((on_way _ t none none ho (ht _ mb) _ (ht _ mb)).mpr (at_has ho (ht _ mb)))
    refine ⟨fun z => g1 ⟨wa, decide_eq_true ((on_way _ t none none ho (ht _ mb) _ (ht _ ma)).mpr z)⟩, fun z => g2 ⟨decide_eq_true ((on_way _ t none none ho (ht _ ma) _ (ht _ mb)).mpr z), wb⟩⟩
  · rintro ⟨h1, h2⟩ c hc
    have ht : ∀ c ∈ cs, c ∈ t.keys := fun c hc => at_sub k t c (h1 c hc).2
    refine ⟨(hb c).mpr (h1 c hc), (filter_one cs).mpr ?_⟩
    refine h2.imp_of_mem fun {a b} ma mb hap z => ?_
    have wa := (on_way _ t none none ho (ht _ ma) _ (ht _ hc)).mp (of_decide_eq_true z.1)
    have wb := (on_way _ t none none ho (ht _ mb) _ (ht _ hc)).mp (of_decide_eq_true z.2)
    exact not_apart ho (ht _ ma) (ht _ mb) wa wb hap
def spStand : Sp := fun vs H Q _ => ∃ (v : V) (t l r : Tr) (k : Int) (a : Addr) (cs : List Int), vs = [v, .int k, .ref a] ∧ Rep H v t.d ∧ t.ht < 80 ∧ t.size ≤ 60 ∧ at_ k t = .node l k r ∧ H a = some (.lst (cs.map V.int)) ∧ cs.length ≤ 1000 ∧ ∀ H', Same H H' → Q (.bl (decide (Stand t l r cs))) H'
def spNof : Sp := fun vs H Q _ => ∃ (y : V) (d : D) (room m : Nat) (t : Tr) (k : Int), vs = [y] ∧ Rep H y d ∧ 1 ≤ room ∧ Val room t m d k ∧ Q (.int ((m : Int) + 1)) H
def spHolds (n : Nat) : Sp := fun vs H Q _ => ∃ (v y : V) (t : Tr) (room m : Nat) (d : D) (k : Int), vs = [v, .int (room : Int), y] ∧ Rep H v t.d ∧ t.ord none none ∧ t.ht < 80 ∧ t.size ≤ 60 ∧ 1 ≤ room ∧ room ≤ 100 ∧ Rep H y d ∧ Pp m d k ∧ (m < n ∧ m ≤ 80) ∧ ∀ o H', Same H H' → ((o = .bl false ∧ ∀ m k, ¬ Val room t m d k) ∨ ∃ m k, o = .bl true ∧ Val room t m d k) → Q o H'
section
variable {P : Program} {w : World} {K : PySem.W.Frag} {mg : Str → Option Value} {base : Heap}
theorem ok_stand {f : Addr} (F0 : Fd K mg "stand_apart" s_stand_apart f) (T : Tx K mg) (C_below : Cal P w K mg base CX0 81 "below" spBelow) (C_way_to : Cal P w K mg base CX0 2 "way_to" spWay) : Cal P w K mg base CX0 82 "stand_apart" spStand := by
  have F := F0
  refine F.cal sc_stand_apart (fun _ _ _ _ _ _ us hl => match us, hl with | [_, _, _], _ => rfl) (fun vs H Q E h => ?_) (fun cdv A outer s H vs Q E hr h => ?_)
  · obtain ⟨v, t, l, r, k, a, cs, rfl, _⟩ := h; rfl
  · obtain ⟨v, t, l, r, k, a, cs, rfl, hv, hht, hz, hat, ea, hcl, q⟩ := h
    refine ⟨_, (bcons (sset (i := 3) sc_stand_apart.nd rfl (by first | exact Or.inl rfl | exact Or.inr rfl) (qF C_below (hr.mono (by omega)) pass0 rfl (qcons (qv 0) (qcons (qv 1) qnil))))
      (bcons (sfor PassesOwn.never rfl (iseq K (qv 2)) (gname (i := 4) sc_stand_apart.nd rfl (by first | exact Or.inl rfl | exact Or.inr rfl))
        (bcons (sset (i := 5) sc_stand_apart.nd rfl (by first | exact Or.inl rfl | exact Or.inr rfl) (qF C_way_to (hr.mono (by omega)) pass0 rfl (qcons (qv 0) (qcons (qv 4) qnil))))
        (bone (sif (QW.tst (wor (tcmp (rNotInn K) (qv 4) (qv 3) (by with_unfolding_all rfl)) (wor1 (tcmp rGt (qB (fLen K) rfl T.b_len bt_len (qcons (qcomp (sc := defScope s_stand_apart) (NX := ["tree", "key", "others", "beneath", "other", "way"]) ["one", "way"] [none, some 5] rfl (iseq K (qv 2)) (fun _ _ _ => (gname (i := 0) (show (["one", "way"] : List Str).Nodup by decide +kernel) rfl (by first | exact Or.inl rfl | exact Or.inr rfl))) (fun _ _ _ => (csone (tcmp (rInn K) (qv 0) (qv 1) (by with_unfolding_all rfl)))) (fun _ _ _ => (qv 0)) rfl rfl (by decide +kernel)) qnil)) qint (nomark _))))) (bone (sret qbl)) bnil))))
      (bone (sret qbl)))), ?_⟩
    refine ⟨_, rfl, _, rfl, v, t, l, r, k, k, rfl, hv, hht, by omega, hat, fun b H1 n1 s1 e1 => ?_⟩
    refine ⟨_, rfl, a, rfl, .inl ⟨⟨_, SqL.of (s1 _ _ ea)⟩, for_list (xs := cs.map V.int) (fun i σ H' => ∃ z1 z2, σ = [some v, some (.int k), some (.ref a), some (.ref b), z1, z2] ∧ Same H1 H' ∧ ∀ c ∈ cs.take i, c ∈ l.keys ++ r.keys ∧ (cs.filter (onW t c)).length ≤ 1)
      ⟨none, none, rfl, Same.refl _, (fun c hc => nomatch hc)⟩ (fun i σ H' _ ⟨_, _, _, s', _⟩ => SqL.of (s' _ _ (s1 _ _ ea))) ?_ ?_⟩⟩
    · rintro i y σ H2 hy ⟨z1, z2, rfl, s2, hP⟩
      obtain ⟨c, hc, rfl⟩ := mapI hy
      have s02 := s1.trans s2
      refine ⟨_, rfl, _, rfl, v, t, c, rfl, hv.mono s02, by omega, fun w3 H3 n3 s3 e3 => ?_⟩
      have s03 := s02.trans s3
      refine ⟨_, rfl, _, rfl, b, _, rfl, .inl (SqL.of (s3 _ _ (s2 _ _ e1))), rfl, flat_ints _, _, rfl, ?_⟩
      rw [inV_ints]
      by_cases hin : c ∈ l.keys ++ r.keys
      case neg =>
        rw [decide_eq_false hin]
        refine iteT ?_
        have := q H3 s03
        rw [decide_eq_false (fun z => hin (z c (List.mem_of_getElem? hc)).1)] at this
        exact this
      case pos =>
      rw [decide_eq_true hin]
      refine iteF ?_
      refine ⟨_, rfl, a, rfl, .inl ⟨⟨_, SqL.of (s03 _ _ ea)⟩, fun ac ha => ?_⟩⟩
      refine comp_list (xs := cs.map V.int) (fun j ys σ H' => ∃ z, σ = [z, some (.ref w3)] ∧ Same H3 H' ∧ H' ac = some (.lst ys) ∧ ys = ((cs.take j).filter (onW t c)).map V.int) ⟨none, rfl, same_new ha, upd_same, rfl⟩ (fun j ys σ H' ⟨_, _, s', _⟩ => SqL.of (s' _ _ (s03 _ _ ea))) ?_ ?_
      · rintro j ys y σ G hy' hj ⟨z, rfl, sG, eG, rfl⟩
        obtain ⟨x, hx, rfl⟩ := mapI hy'
        have htk : (cs.take (j + 1)).filter (onW t c) = (cs.take j).filter (onW t c) ++ (if onW t c x = true then [x] else []) := by
          rw [List.take_add_one, hx, List.filter_append]
          congr 1
          show List.filter _ [x] = _
          rw [List.filter_cons]; rfl
        refine ⟨_, rfl, _, rfl, w3, _, rfl, .inl (SqL.of (sG _ _ e3)), rfl, flat_ints _, _, rfl, ?_⟩
        rw [inV_ints]
        refine ite2 (fun hb => ?_) (fun hb => ?_)
        · refine ⟨_, rfl, ?_⟩
          refine cpost eG (sizeBig (by rw [List.length_map]; have := List.length_filter_le (onW t c) (cs.take j); rw [List.length_take] at this; omega)) hj ?_
          refine ⟨_, rfl, same_upd sG ha, upd_same, ?_⟩
          have hb' : onW t c x = true := hb
          rw [htk, if_pos hb', List.map_append]; rfl
        · refine cskip hj (ys := ((cs.take j).filter (onW t c)).map V.int) ⟨_, rfl, sG, eG, ?_⟩
          have hb' : ¬ onW t c x = true := hb
          rw [htk, if_neg hb', List.append_nil]
      · rintro ys σ H4 ⟨z, rfl, s4, e4, rfl⟩
        rw [List.length_map, List.take_of_length_le (Nat.le_refl _)] at e4
        refine ⟨ac, _, rfl, .inl (SqL.of e4), _, _, rfl, rfl, _, rfl, ?_⟩
        rw [List.length_map]
        by_cases hone : (1 : Int) < ((cs.filter (onW t c)).length : Int)
        case pos =>
          rw [decide_eq_true hone]
          refine iteT ?_
          have := q H4 (s03.trans s4)
          rw [decide_eq_false (fun z => by have := (z c (List.mem_of_getElem? hc)).2; omega)] at this
          exact this
        case neg =>
        rw [decide_eq_false hone]
        refine iteF ?_
        refine ⟨_, _, rfl, s2.trans (s3.trans s4), fun c' hc' => ?_⟩
        rw [List.take_add_one, hc] at hc'
        rcases List.mem_append.mp hc' with hc' | hc'
        · exact hP c' hc'
        · simp at hc'
          rw [hc']
          exact ⟨hin, by omega⟩
    · rintro σ H2 ⟨z1, z2, rfl, s2, hP⟩
      rw [List.length_map, List.take_of_length_le (Nat.le_refl _)] at hP
      have := q H2 (s1.trans s2)
      rw [decide_eq_true (show Stand t l r cs from hP)] at this
      exact this
theorem ok_nof {f : Addr} (F0 : Fd K mg "number_of" s_number_of f) (T : Tx K mg) : Cal P w K mg base CX0 1 "number_of" spNof := by
  have F := F0
  refine F.cal sc_number_of (fun _ _ _ _ _ _ us hl => match us, hl with | [_], _ => rfl) (fun vs H Q E h => ?_) (fun cdv A outer s H vs Q E hr h => ?_)
  · obtain ⟨y, d, room, m, t, k, rfl, _⟩ := h; rfl
  · obtain ⟨y, d, room, m, t, k, rfl, hy, hr1, hval, q⟩ := h
    refine ⟨_, (bcons (sset (i := 1) sc_number_of.nd rfl (by first | exact Or.inl rfl | exact Or.inr rfl) qint)
      (bcons (swhile PassesOwn.never (tcmp (rEqq hr) (qix (xIx K) (qv 0) qint (fun _ _ => rfl)) qstr (nomark _))
        (bcons (sset (i := 0) sc_number_of.nd rfl (by first | exact Or.inl rfl | exact Or.inr rfl) (qix (xIx K) (qix (xIx K) (qv 0) qint (fun _ _ => rfl)) qint (fun _ _ => rfl)))
        (bone (saug (i := 1) sc_number_of.nd rfl (by first | exact Or.inl rfl | exact Or.inr rfl) qint iAdd))))
      (bone (sret (qv 1))))), ?_⟩
    refine ⟨fun n σ H' => ∃ (y' : V) (d' : D) (i : Int) (k' : Int), σ = [some y', some (.int i)] ∧ H' = H ∧ Rep H y' d' ∧ Val room t n d' k' ∧ i + (n : Int) = (m : Int) + 1, ⟨_, y, d, 1, k, rfl, rfl, hy, hval, by omega⟩, ?_⟩
    rintro n σ H1 ⟨y', d', i, k', rfl, rfl, hy', hval', hi⟩
    cases n with
    | zero =>
      obtain ⟨rfl, _⟩ := hval'
      obtain ⟨a, rfl, ea⟩ := rep_knot hy'
      refine ⟨_, rfl, a, _, 0, _, rfl, rfl, .inr (SqT.of ea), atI_nat (j := 0) rfl, _, rfl, ?_⟩
      refine iteF ?_
      have e : i = (m : Int) + 1 := by omega
      rw [e]
      exact ⟨_, rfl, q⟩
    | succ n =>
      have hv0 := hval'
      obtain ⟨ds, ks, rfl, _⟩ := hval'
      obtain ⟨m', e, _, _, hl, hvv, _⟩ := val_part hv0
      cases e
      obtain ⟨a, c, ws, rfl, ea, ec, rc⟩ := rep_part hy'
      have hwl := rc.length
      cases rc with
      | nil => simp at hl; omega
      | cons r1 r2 =>
      refine ⟨_, rfl, a, _, 0, _, rfl, rfl, .inr (SqT.of ea), atI_nat (j := 0) rfl, _, rfl, ?_⟩
      refine iteT ?_
      refine ⟨fun σ' H' => ∃ m', m' < n + 1 ∧ ∃ (y' : V) (d' : D) (i : Int) (k' : Int), σ' = [some y', some (.int i)] ∧ H' = H1 ∧ Rep H1 y' d' ∧ Val room t m' d' k' ∧ i + (m' : Int) = (m : Int) + 1, fun _ _ z => z, ?_⟩
      refine ⟨_, rfl, a, _, 2, _, rfl, rfl, .inr (SqT.of ea), atI_nat (j := 2) rfl, c, _, 0, _, rfl, rfl, .inr (SqT.of ec), atI_nat (j := 0) rfl, ?_⟩
      refine ⟨_, rfl, _, _, rfl, rfl, ?_⟩
      exact ⟨n, Nat.lt_succ_self _, _, _, _, _, rfl, rfl, r1, hvv _ (List.mem_cons_self ..), by show (i + 1) + (n : Int) = (m : Int) + 1; omega⟩
theorem ok_held {f : Addr} (F0 : Fd K mg "number_held" s_number_held f) (T : Tx K mg) (C_knot_at : Cal P w K mg base CX0 2 "knot_at" spKat) (C_stand_apart : Cal P w K mg base CX0 82 "stand_apart" spStand) : ∀ n, Cal P w K mg base CX0 (n + 82) "number_held" (spNum n) := by
  have F := F0
  intro n
  induction n with
  | zero => exact (F.none (ps := ["tree", "room", "paper"]) (fun _ _ _ _ _ _ us hl => match us, hl with | [_, _, _], _ => rfl) fun vs H Q E ⟨v, y, t, _, m, _, _, _, _, _, _, _, _, _, _, _, h2, _⟩ => by omega).mono (by decide)
  | succ n C_number_held =>
    refine F.cal sc_number_held (fun _ _ _ _ _ _ us hl => match us, hl with | [_, _, _], _ => rfl) (fun vs H Q E h => ?_) (fun cdv A outer s H vs Q E hr h => ?_)
    · obtain ⟨v, y, t, room, m, d, k, rfl, _⟩ := h; rfl
    · obtain ⟨v, y, t, room, m, d, k, rfl, hv, ho, hht, hz, hr1, hr2, hy, hpp, hm, q⟩ := h
      refine ⟨_, (bcons (sif (tcmp rIs (qF C_knot_at (hr.mono (by omega)) pass0 rfl (qcons (qv 0) (qcons (qix (xIx K) (qv 2) qint (fun _ _ => rfl)) qnil))) qnon (nomark _)) (bone (sret qnon)) bnil)
      (bcons (sif (tcmp (rEqq hr) (qix (xIx K) (qv 2) qint (fun _ _ => rfl)) qstr (nomark _)) (bone (sret qint)) bnil)
      (bcons (sset (i := 3) sc_number_held.nd rfl (by first | exact Or.inl rfl | exact Or.inr rfl) (qix (xIx K) (qv 2) qint (fun _ _ => rfl)))
      (bcons (sif (QW.tst (wor (tcmp (rNeq hr) (qB (fLen K) rfl T.b_len bt_len (qcons (qv 3) qnil)) (qv 1) (nomark _)) (wor1 (tnot (ttru K (qF C_stand_apart (hr.mono (by omega)) pass0 rfl (qcons (qv 0) (qcons (qix (xIx K) (qv 2) qint (fun _ _ => rfl)) (qcons (qcomp (sc := defScope s_number_held) (NX := ["tree", "room", "paper", "papers", "numbers"]) ["inner"] [none] rfl (iseq K (qv 3)) (fun _ _ _ => (gname (i := 0) (show (["inner"] : List Str).Nodup by decide +kernel) rfl (by first | exact Or.inl rfl | exact Or.inr rfl))) (fun _ _ _ => csnil) (fun _ _ _ => (qix (xIx K) (qv 0) qint (fun _ _ => rfl))) rfl rfl (by decide +kernel)) qnil)))) (fun _ => rfl)))))) (bone (sret qnon)) bnil)
      (bcons (ssetC (i := 4) (sc := defScope s_number_held) (NX := ["tree", "room", "paper", "papers", "numbers"]) ["inner", "tree", "room"] [none, some 0, some 1] rfl sc_number_held.nd rfl rfl (iseq K (qv 3)) (fun _ _ _ => (gname (i := 0) (show (["inner", "tree", "room"] : List Str).Nodup by decide +kernel) rfl (by first | exact Or.inl rfl | exact Or.inr rfl))) (fun _ _ _ => csnil) (fun _ _ _ => (qF C_number_held (hr.mono (by omega)) pass0 rfl (qcons (qv 1) (qcons (qv 2) (qcons (qv 0) qnil))))) rfl rfl (by decide +kernel) rfl)
      (bcons (sif (QW.tst (wor (tcmp (rInn K) qnon (qv 4) (by with_unfolding_all rfl)) (wor1 (tcmp rGt (qLenSet K rfl T.b_len rfl T.b_set (qcons (qv 4) qnil)) qint (nomark _))))) (bone (sret qnon)) bnil)
      (bone (sret (qop rAdd (qix (xIx K) (qv 4) qint (fun _ _ => rfl)) qint))))))))), ?_⟩
      obtain ⟨a, sx, rest, rfl, ea0⟩ := pp_key hy hpp
      refine ⟨_, rfl, _, rfl, a, _, 1, _, rfl, rfl, .inr (SqT.of ea0), atI_nat (j := 1) rfl, v, t, k, rfl, hv, fun vh gh => ?_⟩
      by_cases hk : k ∈ t.keys
      case neg =>
        rw [at_nil hk] at gh
        cases rep_nil gh
        refine ⟨rfl, _, rfl, ?_⟩
        refine iteT ?_
        refine q _ H (Same.refl _) (.inl ⟨rfl, fun m' k' hv' => hk ?_⟩)
        have e1 := val_keyD hv'
        rw [hpp.key] at e1
        rw [e1]
        exact val_in hv'
      case pos =>
      obtain ⟨l, r, hat⟩ := at_node k t none none ho hk
      rw [hat] at gh
      obtain ⟨ph, vl, vr, rfl, eh, _, _⟩ := rep_node gh
      refine ⟨rfl, _, rfl, ?_⟩
      refine iteF ?_
      have hform : d = knotD k ∨ ∃ ds ks m', m = m' + 1 ∧ d = partD k ds ∧ ds.length ≤ 100 + m' ∧ Vals (Pp m') ds ks := by
        cases m with
        | zero => exact .inl hpp
        | succ m => rcases hpp with h | ⟨ds, ks, h⟩; exact .inl h; exact .inr ⟨ds, ks, m, rfl, h⟩
      rcases hform with rfl | ⟨ds, ks, m, rfl, rfl, hdl, hvp⟩
      · obtain ⟨a', ez, ea⟩ := rep_knot hy
        cases ez
        refine ⟨_, rfl, a, _, 0, _, rfl, rfl, .inr (SqT.of ea), atI_nat (j := 0) rfl, _, rfl, ?_⟩
        refine iteT ?_
        exact q _ H (Same.refl _) (.inr ⟨0, k, rfl, rfl, hk⟩)
      · obtain ⟨a', c, ws, ez, ea, ec, rc⟩ := rep_part hy
        cases ez
        have hwl := rc.length
        have hks : ks = ds.map keyD := hvp.keys fun d k => Pp.key
        refine ⟨_, rfl, a, _, 0, _, rfl, rfl, .inr (SqT.of ea), atI_nat (j := 0) rfl, _, rfl, ?_⟩
        refine iteF ?_
        refine ⟨_, rfl, a, _, 2, _, rfl, rfl, .inr (SqT.of ea), atI_nat (j := 2) rfl, ?_⟩
        refine ⟨_, rfl, c, _, rfl, .inr (SqT.of ec), _, rfl, _, rfl, ?_⟩
        by_cases hlr : (ws.length : Int) = (room : Int)
        case neg =>
          rw [decide_eq_false hlr]
          refine iteT ?_
          refine q _ H (Same.refl _) (.inl ⟨rfl, fun m' k' hv' => hlr ?_⟩)
          obtain ⟨_, _, _, _, h, _⟩ := val_part hv'
          omega
        case pos =>
        rw [decide_eq_true hlr]
        refine iteF ?_
        refine ⟨_, rfl, _, rfl, a, _, 1, _, rfl, rfl, .inr (SqT.of ea), atI_nat (j := 1) rfl, _, rfl, c, rfl, .inr ⟨⟨_, SqT.of ec⟩, fun ac ha => ?_⟩⟩
        refine comp_tup (xs := ws) (fun i ys σ H' => ∃ z, σ = [z] ∧ Same H H' ∧ H' ac = some (.lst ys) ∧ ys = ((ds.map keyD).take i).map V.int) ⟨none, rfl, same_new ha, upd_same, rfl⟩ (fun i ys σ H' ⟨_, _, s', _⟩ => SqT.of (s' _ _ ec)) ?_ ?_
        · rintro i ys y σ G hy' hi ⟨z, rfl, sG, eG, rfl⟩
          obtain ⟨e, hd, gd⟩ := reps_get rc hy'
          obtain ⟨k', _, hv'⟩ := hvp.at hd
          obtain ⟨b, sb, rb, rfl, eb⟩ := pp_key gd hv'
          refine ⟨_, rfl, b, _, 1, _, rfl, rfl, .inr (SqT.of (sG _ _ eb)), atI_nat (j := 1) rfl, ?_⟩
          refine cpost eG (sizeBig (by rw [List.length_map, List.length_take, List.length_map]; omega)) hi ?_
          refine ⟨_, rfl, same_upd sG ha, upd_same, ?_⟩
          have hk' : (ds.map keyD)[i]? = some k' := by rw [List.getElem?_map, hd, ← hv'.key]; rfl
          rw [List.take_add_one, hk', List.map_append]; rfl
        rintro ys σ H1 ⟨z, rfl, s1, e1, rfl⟩
        rw [List.take_of_length_le (by rw [List.length_map]; omega)] at e1
        refine ⟨v, t, l, r, k, ac, ds.map keyD, rfl, hv.mono s1, hht, hz, hat, e1, by rw [List.length_map]; omega, fun H2 s2 => ?_⟩
        have hst := stand_iff ho hk hat (ds.map keyD)
        have s02 := s1.trans s2
        refine ⟨_, rfl, ?_⟩
        by_cases hS : Stand t l r (ds.map keyD)
        case neg =>
          rw [decide_eq_false hS]
          refine iteT ?_
          refine q _ H2 s02 (.inl ⟨rfl, fun m' k' hv' => hS (hst.mpr ?_)⟩)
          obtain ⟨_, _, _, _, _, _, hb, hpw⟩ := val_part hv'
          refine ⟨fun c' hc' => ?_, hpw⟩
          obtain ⟨e, he, rfl⟩ := List.mem_map.mp hc'
          exact hb e he
        case pos =>
        rw [decide_eq_true hS]
        refine iteF ?_
        obtain ⟨hb4, hp4⟩ := hst.mp hS
        refine ⟨_, rfl, c, rfl, .inr ⟨⟨_, SqT.of (s02 _ _ ec)⟩, fun an han => ?_⟩⟩
        refine comp_tup (xs := ws) (fun i ys σ H' => ∃ z, σ = [z, some v, some (.int (room : Int))] ∧ Same H2 H' ∧ H' an = some (.lst ys) ∧ ys.length = i ∧ ∀ (j : Nat) (e : D) (o : V), ds[j]? = some e → ys[j]? = some o → NumR room t e o) ⟨none, rfl, same_new han, upd_same, rfl, (fun j e o _ h => by simp at h)⟩ (fun i ys σ H' ⟨_, _, s', _⟩ => SqT.of (s' _ _ (s02 _ _ ec))) ?_ ?_
        · rintro i ys y σ G hy' hi ⟨z, rfl, sG, eG, hyl, hG⟩
          obtain ⟨e, hd, gd⟩ := reps_get rc hy'
          obtain ⟨k', _, hv'⟩ := hvp.at hd
          have s0G := s02.trans sG
          refine ⟨_, rfl, _, rfl, _, rfl, v, y, t, room, m, e, k', rfl, hv.mono s0G, ho, hht, hz, hr1, hr2, gd.mono s0G, hv', by omega, fun o G2 s2' ho2 => ?_⟩
          refine cpost (s2' _ _ eG) (sizeBig (by omega)) hi ?_
          refine ⟨_, rfl, same_upd (sG.trans s2') han, upd_same, by rw [List.length_append, List.length_singleton, hyl], fun j e' o' h1 h2 => ?_⟩
          by_cases hj : j < ys.length
          · rw [List.getElem?_append_left hj] at h2
            exact hG j e' o' h1 h2
          · have hj2 : j = i := by
              have := (List.getElem?_eq_some_iff.mp h2).1
              rw [List.length_append, List.length_singleton] at this
              omega
            subst hj2
            rw [List.getElem?_append_right (by omega), hyl, Nat.sub_self] at h2
            cases h2
            rw [hd] at h1
            cases h1
            exact ho2
        rintro ys σ H3 ⟨z, rfl, s3, e3, hyl, hN⟩
        have s03 := s02.trans s3
        have hallN : ∀ o ∈ ys, ∃ e ∈ ds, NumR room t e o := fun o ho' => by
          obtain ⟨j, hj, he⟩ := List.getElem_of_mem ho'
          have hjd : j < ds.length := by omega
          exact ⟨ds[j], List.getElem_mem hjd, hN j _ _ (List.getElem?_eq_getElem hjd) (by rw [← he]; exact List.getElem?_eq_getElem hj)⟩
        have hallD : ∀ e ∈ ds, ∃ o ∈ ys, NumR room t e o := fun e he' => by
          obtain ⟨j, hj, he⟩ := List.getElem_of_mem he'
          have hjd : j < ys.length := by omega
          exact ⟨ys[j], List.getElem_mem hjd, hN j _ _ (by rw [← he]; exact List.getElem?_eq_getElem hj) (List.getElem?_eq_getElem hjd)⟩
        have hfl : ∀ o ∈ ys, o = V.non ∨ ∃ i, o = V.int i := fun o ho' => by
          obtain ⟨e, _, h⟩ := hallN o ho'
          exact numR_flat h
        refine ⟨_, rfl, an, _, rfl, .inl (SqL.of e3), rfl, flat_of hfl, _, rfl, ?_⟩
        by_cases hnon : V.non ∈ ys
        case pos =>
          rw [(inV_non hfl).mpr hnon]
          refine iteT ?_
          refine q _ H3 s03 (.inl ⟨rfl, fun m' k' hv' => ?_⟩)
          obtain ⟨e, he, h⟩ := hallN _ hnon
          obtain ⟨m2, _, _, _, _, hvv, _⟩ := val_part hv'
          rcases h with ⟨_, h⟩ | ⟨_, _, h, _⟩
          · exact h _ _ (hvv e he)
          · cases h
        case neg =>
        rw [Bool.eq_false_iff.mpr (fun z => hnon ((inV_non hfl).mp z))]
        refine iteF ?_
        obtain ⟨xs, rfl⟩ := ints_ex (ys := ys) fun o ho' => by
          rcases hfl o ho' with h | h
          · rw [h] at ho'; exact absurd ho' hnon
          · exact h
        rw [List.length_map] at hyl
        have hpos : 0 < xs.length := by omega
        have hval : ∀ x ∈ xs, ∃ e ∈ ds, ∃ (mm : Nat) (kk : Int), x = (mm : Int) + 1 ∧ Val room t mm e kk := fun x hx => by
          obtain ⟨e, he, h⟩ := hallN (.int x) (List.mem_map_of_mem hx)
          rcases h with ⟨h, _⟩ | ⟨mm, kk, h, hv'⟩
          · cases h
          · injection h with h
            exact ⟨e, he, mm, kk, h, hv'⟩
        refine ⟨_, rfl, an, xs, rfl, SqL.of e3, by omega, fun mz hmz => ?_⟩
        refine ⟨_, _, rfl, rfl, _, rfl, ?_⟩
        by_cases hlt : (1 : Int) < (mz : Int)
        case pos =>
          rw [decide_eq_true hlt]
          refine iteT ?_
          refine q _ H3 s03 (.inl ⟨rfl, fun m' k' hv' => ?_⟩)
          obtain ⟨m2', _, _, _, _, hvv, _⟩ := val_part hv'
          obtain ⟨xa, hxa, xb, hxb, hne⟩ := hmz.mp (by omega)
          obtain ⟨ea1, he1, ma, ka, h1, hv1⟩ := hval xa hxa
          obtain ⟨ea2, he2, mb, kb, h2, hv2⟩ := hval xb hxb
          have u1 := val_uni hr1 hv1 (hvv _ he1)
          have u2 := val_uni hr1 hv2 (hvv _ he2)
          omega
        case neg =>
        rw [decide_eq_false hlt]
        refine iteF ?_
        have hsame : ∀ x ∈ xs, x = xs[0] := fun x hx => by
          by_cases e : x = xs[0]
          · exact e
          · exact absurd (hmz.mpr ⟨x, hx, xs[0], List.getElem_mem hpos, e⟩) (by omega)
        obtain ⟨_, _, m0, _, hm0, _⟩ := hval xs[0] (List.getElem_mem hpos)
        have hvm : ∀ e ∈ ds, Val room t m0 e (keyD e) := fun e he => by
          obtain ⟨o, ho', h⟩ := hallD e he
          obtain ⟨x, hx, rfl⟩ := List.mem_map.mp ho'
          rcases h with ⟨h, _⟩ | ⟨mm, kk, h, hv'⟩
          · cases h
          · injection h with h
            have h3 := hsame x hx
            have h4 : mm = m0 := by omega
            rw [val_keyD hv', ← h4]
            exact hv'
        refine ⟨_, rfl, an, _, 0, .int xs[0], rfl, rfl, .inl (SqL.of e3), atI_nat (j := 0) ?_, ?_⟩
        · rw [List.getElem?_map, List.getElem?_eq_getElem hpos]; rfl
        · refine q _ H3 s03 (.inr ⟨m0 + 1, k, ?_, val_mk hk (by omega) hvm (fun e he => hb4 _ (List.mem_map_of_mem he)) hp4⟩)
          show V.int (xs[0] + 1) = _
          rw [hm0]
          congr 1
theorem ok_holds {f : Addr} (F0 : Fd K mg "holds" s_holds f) (T : Tx K mg) {n : Nat} (C_number_held : Cal P w K mg base CX0 (n + 82) "number_held" (spNum n)) : Cal P w K mg base CX0 (n + 83) "holds" (spHolds n) := by
  have F := F0
  refine F.cal sc_holds (fun _ _ _ _ _ _ us hl => match us, hl with | [_, _, _], _ => rfl) (fun vs H Q E h => ?_) (fun cdv A outer s H vs Q E hr h => ?_)
  · obtain ⟨v, y, t, room, m, d, k, rfl, _⟩ := h; rfl
  · obtain ⟨v, y, t, room, m, d, k, rfl, hv, ho, hht, hz, hr1, hr2, hy, hpp, hm, q⟩ := h
    refine ⟨_, (bone (sret (qcmp rIsNot (qF C_number_held (hr.mono (by omega)) pass0 rfl (qcons (qv 0) (qcons (qv 1) (qcons (qv 2) qnil)))) qnon (nomark _)))), ?_⟩
    refine ⟨_, rfl, _, rfl, _, rfl, v, y, t, room, m, d, k, rfl, hv, ho, hht, hz, hr1, hr2, hy, hpp, hm, fun o H1 s1 hN => ?_⟩
    rcases hN with ⟨rfl, h⟩ | ⟨m', k', rfl, h⟩
    · exact ⟨rfl, q _ H1 s1 (.inl ⟨rfl, h⟩)⟩
    · exact ⟨rfl, q _ H1 s1 (.inr ⟨m', k', rfl, h⟩)⟩
end
end K57B
namespace K57D
open PySem L2 L3
def heir : Tr → Int
  | .nil => 0
  | .node .nil x _ => x
  | .node (.node a b c) _ _ => heir (.node a b c)
instance (t : Tr) : Decidable (t = .nil) := match t with
  | .nil => isTrue rfl
  | .node .. => isFalse (fun h => nomatch h)
def del : Tr → Int → Tr
  | .nil, _ => .nil
  | .node l x r, k => if k < x then .node (del l k) x r else if x < k then .node l x (del r k) else if l = .nil then r else if r = .nil then l else .node l (heir r) (del r (heir r))
theorem heir_l {l r : Tr} {x : Int} (h : l ≠ .nil) : heir (.node l x r) = heir l := by
  cases l with
  | nil => exact absurd rfl h
  | node a b c => rfl
theorem heir_keys : ∀ t : Tr, t ≠ .nil → t.keys[0]? = some (heir t)
  | .nil, h => absurd rfl h
  | .node .nil x r, _ => rfl
  | .node (.node a b c) x r, _ => by
    have := heir_keys (.node a b c) (by simp)
    rw [heir_l (by simp), Tr.keys, List.append_assoc, List.getElem?_append_left (by
      rw [Tr.keys_length, Tr.size]; omega)]
    exact this
theorem heir_mem {t : Tr} (h : t ≠ .nil) : heir t ∈ t.keys := List.mem_of_getElem? (heir_keys t h)
theorem del_ht : ∀ (t : Tr) (k : Int), (del t k).size ≤ t.size
  | .nil, k => Nat.le_refl _
  | .node l x r, k => by
    have h1 := del_ht l k
    have h2 := del_ht r k
    have h3 := del_ht r (heir r)
    rw [del]
    split
    · simp only [Tr.size]; omega
    · split
      · simp only [Tr.size]; omega
      · split
        · simp only [Tr.size]; omega
        · split
          · simp only [Tr.size]; omega
          · simp only [Tr.size]; omega
theorem del_sub : ∀ (t : Tr) (k y : Int), y ∈ (del t k).keys → y ∈ t.keys
  | .nil, k, y, h => h
  | .node l x r, k, y, h => by
    rw [del] at h
    split at h
    · simp only [Tr.keys, List.mem_append, List.mem_singleton] at h ⊢
      rcases h with (h | h) | h
      · exact .inl (.inl (del_sub l k y h))
      · exact .inl (.inr h)
      · exact .inr h
    · split at h
      · simp only [Tr.keys, List.mem_append, List.mem_singleton] at h ⊢
        rcases h with (h | h) | h
        · exact .inl (.inl h)
        · exact .inl (.inr h)
        · exact .inr (del_sub r k y h)
      · split at h
        · simp only [Tr.keys, List.mem_append, List.mem_singleton]; exact .inr h
        · split at h
          · simp only [Tr.keys, List.mem_append, List.mem_singleton]; exact .inl (.inl h)
          · rename_i h1 h2
            simp only [Tr.keys, List.mem_append, List.mem_singleton] at h ⊢
            rcases h with (h | h) | h
            · exact .inl (.inl h)
            · rw [h]; exact .inr (heir_mem h2)
            · exact .inr (del_sub r _ y h)
theorem heir_least : ∀ (t : Tr) (lo hi : Option Int), t.ord lo hi → ∀ y ∈ t.keys, heir t ≤ y
  | .nil, _, _, _, y, hy => by simp [Tr.keys] at hy
  | .node .nil x r, lo, hi, ho, y, hy => by
    simp only [Tr.keys, List.nil_append, List.mem_append, List.mem_singleton] at hy
    rcases hy with rfl | hy
    · exact Int.le_refl _
    · have := ord_r ho hy
      show x ≤ y
      omega
  | .node (.node a b c) x r, lo, hi, ho, y, hy => by
    rw [heir_l (by simp)]
    have hm := ord_l ho (heir_mem (t := .node a b c) (by simp))
    rw [Tr.keys, List.mem_append, List.mem_append, List.mem_singleton] at hy
    rcases hy with (hy | rfl) | hy
    · exact heir_least _ _ _ ho.2.2.1 y hy
    · omega
    · have := ord_r ho hy
      omega
theorem ord_weak : ∀ (t : Tr) (lo lo' hi : Option Int), t.ord lo hi → (∀ y ∈ t.keys, ∀ a, lo' = some a → a < y) → t.ord lo' hi
  | .nil, _, _, _, _, _ => trivial
  | .node l x r, lo, lo', hi, h, hy => ⟨fun a ha => hy x (by simp [Tr.keys]) a ha, h.2.1, ord_weak l lo lo' _ h.2.2.1 fun y hm a ha => hy y (by simp [Tr.keys, hm]) a ha, h.2.2.2⟩
theorem ord_weakH : ∀ (t : Tr) (lo hi hi' : Option Int), t.ord lo hi → (∀ y ∈ t.keys, ∀ a, hi' = some a → y < a) → t.ord lo hi'
  | .nil, _, _, _, _, _ => trivial
  | .node l x r, lo, hi, hi', h, hy => ⟨h.1, fun a ha => hy x (by simp [Tr.keys]) a ha, h.2.2.1, ord_weakH r _ hi hi' h.2.2.2 fun y hm a ha => hy y (by simp [Tr.keys, hm]) a ha⟩
theorem del_not : ∀ (t : Tr) (k : Int) (lo hi : Option Int), t.ord lo hi → k ∉ (del t k).keys
  | .nil, k, _, _, _, h => by simp [del, Tr.keys] at h
  | .node l x r, k, lo, hi, ho, h => by
    rw [del] at h
    by_cases c : k < x
    · rw [if_pos c] at h
      simp only [Tr.keys, List.mem_append, List.mem_singleton] at h
      rcases h with (h | h) | h
      · exact del_not l k _ _ ho.2.2.1 h
      · omega
      · have := ord_r ho h; omega
    · rw [if_neg c] at h
      by_cases d : x < k
      · rw [if_pos d] at h
        simp only [Tr.keys, List.mem_append, List.mem_singleton] at h
        rcases h with (h | h) | h
        · have := ord_l ho h; omega
        · omega
        · exact del_not r k _ _ ho.2.2.2 h
      · rw [if_neg d] at h
        split at h
        · have := ord_r ho h; omega
        · split at h
          · have := ord_l ho h; omega
          · rename_i h1 h2
            simp only [Tr.keys, List.mem_append, List.mem_singleton] at h
            have hh := ord_r ho (heir_mem h2)
            rcases h with (h | h) | h
            · have := ord_l ho h; omega
            · omega
            · have := ord_r ho (del_sub r _ _ h); omega
theorem del_ord : ∀ (t : Tr) (k : Int) (lo hi : Option Int), t.ord lo hi → (del t k).ord lo hi
  | .nil, k, _, _, h => h
  | .node l x r, k, lo, hi, ho => by
    rw [del]
    split
    · exact ⟨ho.1, ho.2.1, del_ord l k _ _ ho.2.2.1, ho.2.2.2⟩
    · split
      · exact ⟨ho.1, ho.2.1, ho.2.2.1, del_ord r k _ _ ho.2.2.2⟩
      · split
        · exact ord_weak r _ lo _ ho.2.2.2 fun y hy a ha => by
            have h1 := ord_r ho hy
            have h2 := ho.1 a ha
            omega
        · split
          · exact ord_weakH l _ _ hi ho.2.2.1 fun y hy a ha => by
              have h1 := ord_l ho hy
              have h2 := ho.2.1 a ha
              omega
          · rename_i h1 h2
            have hm := heir_mem h2
            have hx := ord_r ho hm
            refine ⟨fun a ha => ?_, fun b hb => ?_, ?_, ?_⟩
            · have := ho.1 a ha; omega
            · exact (ord_bd r _ _ ho.2.2.2 _ hm).2 b hb
            · exact ord_weakH l _ _ _ ho.2.2.1 fun y hy a ha => by
                cases ha
                have := ord_l ho hy
                omega
            · exact ord_weak _ _ _ _ (del_ord r (heir r) _ _ ho.2.2.2) fun y hy a ha => by
                cases ha
                have h3 := heir_least r _ _ ho.2.2.2 y (del_sub r _ y hy)
                have h4 : y ≠ heir r := fun z => del_not r (heir r) _ _ ho.2.2.2 (by rw [z] at hy; exact hy)
                omega
inductive Spl : Tr → Tr → Prop
  | l (u : Tr) (x : Int) : Spl (.node u x .nil) u
  | r (u : Tr) (x : Int) : Spl (.node .nil x u) u
  | left {l l' : Tr} (r : Tr) (x y : Int) : Spl l l' → Spl (.node l x r) (.node l' y r)
  | right {r r' : Tr} (l : Tr) (x y : Int) : Spl r r' → Spl (.node l x r) (.node l y r')
theorem spl_ins (k : Int) : ∀ t : Tr, Spl (t.ins k) t
  | .nil => .l .nil k
  | .node l x r => by
    rw [Tr.ins]
    split
    · exact .left r x x (spl_ins k l)
    · exact .right l x x (spl_ins k r)
theorem spl_del : ∀ (t : Tr) (k : Int) (lo hi : Option Int), t.ord lo hi → k ∈ t.keys → Spl t (del t k)
  | .nil, k, _, _, _, h => by simp [Tr.keys] at h
  | .node l x r, k, lo, hi, ho, h => by
    simp only [Tr.keys, List.mem_append, List.mem_singleton] at h
    rw [del]
    by_cases c : k < x
    · rw [if_pos c]
      refine .left r x x (spl_del l k _ _ ho.2.2.1 ?_)
      rcases h with (h | h) | h
      · exact h
      · omega
      · have := ord_r ho h; omega
    · rw [if_neg c]
      by_cases d : x < k
      · rw [if_pos d]
        refine .right l x x (spl_del r k _ _ ho.2.2.2 ?_)
        rcases h with (h | h) | h
        · have := ord_l ho h; omega
        · omega
        · exact h
      · rw [if_neg d]
        by_cases e : l = .nil
        · rw [if_pos e, e]; exact .r r x
        · rw [if_neg e]
          by_cases f : r = .nil
          · rw [if_pos f, f]; exact .l l x
          · rw [if_neg f]
            exact .right l x _ (spl_del r (heir r) _ _ ho.2.2.2 (heir_mem f))
open K57B in
theorem spl_le {room : Nat} (hr : 1 ≤ room) {s s' : Tr} (h : Spl s s') : ∀ n, ln room n s' ≤ ln room n s := by
  have own0 : ∀ l k r, (own room 0 l k r).length = 1 := fun _ _ _ => rfl
  have nil0 : ∀ n, ln room n .nil = 0 := fun n => by unfold ln; rw [pn_nil]; rfl
  induction h with
  | l u x =>
    intro n
    rw [ln_node, nil0]
    split <;> omega
  | r u x =>
    intro n
    rw [ln_node, nil0]
    split <;> omega
  | left r x y _ ih =>
    rename_i l l' _
    intro n
    have h1 := ih n
    have h2 := own_len room n l' y r
    rw [ln_node, ln_node]
    by_cases c' : ln room n l' + ln room n r = 0
    · rw [if_pos c']
      by_cases c : ln room n l + ln room n r = 0
      · rw [if_pos c]
        cases n with
        | zero => rw [own0, own0]; exact Nat.le_refl _
        | succ m =>
          rw [own_is, own_is]
          have := ih m
          split
          · rw [if_pos (by omega)]; exact Nat.le_refl _
          · exact Nat.zero_le _
      · rw [if_neg c]; omega
    · rw [if_neg c', if_neg (by omega)]; omega
  | right l x y _ ih =>
    rename_i r r' _
    intro n
    have h1 := ih n
    have h2 := own_len room n l y r'
    rw [ln_node, ln_node]
    by_cases c' : ln room n l + ln room n r' = 0
    · rw [if_pos c']
      by_cases c : ln room n l + ln room n r = 0
      · rw [if_pos c]
        cases n with
        | zero => rw [own0, own0]; exact Nat.le_refl _
        | succ m =>
          rw [own_is, own_is]
          have := ih m
          split
          · rw [if_pos (by omega)]; exact Nat.le_refl _
          · exact Nat.zero_le _
      · rw [if_neg c]; omega
    · rw [if_neg c', if_neg (by omega)]; omega
open K57B in
theorem spl_ge {room : Nat} (hr : 1 ≤ room) {s s' : Tr} (h : Spl s s') : ∀ n, ln room (n + 1) s ≤ ln room n s' := by
  have own0 : ∀ l k r, (own room 0 l k r).length = 1 := fun _ _ _ => rfl
  have nil0 : ∀ n, ln room n .nil = 0 := fun n => by unfold ln; rw [pn_nil]; rfl
  induction h with
  | l u x =>
    intro n
    have := ln_anti hr n u
    rw [ln_node, nil0, own_is, nil0]
    split
    · split <;> omega
    · omega
  | r u x =>
    intro n
    have := ln_anti hr n u
    rw [ln_node, nil0, own_is, nil0]
    split
    · split <;> omega
    · omega
  | left r x y _ ih =>
    rename_i l l' _
    intro n
    have h1 := ih n
    have h2 := ln_anti hr n r
    rw [ln_node, ln_node]
    by_cases c : ln room (n + 1) l + ln room (n + 1) r = 0
    · rw [if_pos c, own_is]
      by_cases d : room ≤ ln room n l + ln room n r
      · rw [if_pos d]
        by_cases c' : ln room n l' + ln room n r = 0
        · rw [if_pos c']
          cases n with
          | zero => rw [own0]; exact Nat.le_refl _
          | succ m =>
            have h3 := ih m
            have h4 := ln_anti hr m r
            rw [own_is, if_pos (by omega)]; exact Nat.le_refl _
        · rw [if_neg c']; omega
      · rw [if_neg d]; exact Nat.zero_le _
    · rw [if_neg c, if_neg (by omega)]; omega
  | right l x y _ ih =>
    rename_i r r' _
    intro n
    have h1 := ih n
    have h2 := ln_anti hr n l
    rw [ln_node, ln_node]
    by_cases c : ln room (n + 1) l + ln room (n + 1) r = 0
    · rw [if_pos c, own_is]
      by_cases d : room ≤ ln room n l + ln room n r
      · rw [if_pos d]
        by_cases c' : ln room n l + ln room n r' = 0
        · rw [if_pos c']
          cases n with
          | zero => rw [own0]; exact Nat.le_refl _
          | succ m =>
            have h3 := ih m
            have h4 := ln_anti hr m l
            rw [own_is, if_pos (by omega)]; exact Nat.le_refl _
        · rw [if_neg c']; omega
      · rw [if_neg d]; exact Nat.zero_le _
    · rw [if_neg c, if_neg (by omega)]; omega
theorem spl_ht {s s' : Tr} (h : Spl s s') : s'.ht ≤ s.ht ∧ s.ht ≤ s'.ht + 1 := by
  induction h with
  | l u x => simp only [Tr.ht]; omega
  | r u x => simp only [Tr.ht]; omega
  | left r x y _ ih => simp only [Tr.ht]; omega
  | right l x y _ ih => simp only [Tr.ht]; omega
def Num (room : Nat) (t : Tr) (N : Nat) : Prop := ∀ n, n < N ↔ 1 ≤ K57B.ln room n t
theorem num_nil (room : Nat) : Num room .nil 0 := fun n => by
  have : K57B.ln room n .nil = 0 := by unfold K57B.ln; rw [K57B.pn_nil]; rfl
  omega
theorem num_told {room : Nat} (hr : 1 ≤ room) {t : Tr} {n : Nat} {p : D} {ps : List D} (h1 : K57B.pn room n t = p :: ps) (h2 : K57B.pn room (n + 1) t = []) : Num room t (n + 1) := fun m => by
  have a : K57B.ln room n t = ps.length + 1 := by unfold K57B.ln; rw [h1]; rfl
  have b : K57B.ln room (n + 1) t = 0 := by unfold K57B.ln; rw [h2]; rfl
  constructor
  · intro h
    have := K57B.ln_mono hr t (a := m) (b := n) (by omega)
    omega
  · intro h
    by_cases c : n + 1 ≤ m
    · have := K57B.ln_mono hr t (a := n + 1) (b := m) c
      omega
    · omega
theorem num_spl {room : Nat} (hr : 1 ≤ room) {s s' : Tr} (h : Spl s s') {N N' : Nat} (a : Num room s N) (b : Num room s' N') : N' ≤ N ∧ N ≤ N' + 1 := by
  constructor
  · by_cases c : N < N'
    · have h1 := (b N).mp c
      have h2 := spl_le hr h N
      have := (a N).mpr (by omega)
      omega
    · omega
  · by_cases c : N' + 1 < N
    · have h1 := (a (N' + 1)).mp c
      have h2 := spl_ge hr h N'
      have := (b N').mpr (by omega)
      omega
    · omega
theorem filt_all {xs : List Int} {k : Int} (h : ∀ y ∈ xs, y ≠ k) : xs.filter (fun y => !decide (y = k)) = xs := List.filter_eq_self.mpr fun y hy => by simp [h y hy]
theorem del_keys : ∀ (t : Tr) (k : Int) (lo hi : Option Int), t.ord lo hi → (del t k).keys = t.keys.filter (fun y => !decide (y = k))
  | .nil, k, _, _, _ => rfl
  | .node l x r, k, lo, hi, ho => by
    rw [del, Tr.keys, List.filter_append, List.filter_append]
    by_cases c : k < x
    · rw [if_pos c, Tr.keys, del_keys l k _ _ ho.2.2.1, filt_all (xs := r.keys) fun y hy => by have := ord_r ho hy; omega, filt_all (xs := [x]) fun y hy => by rw [List.mem_singleton] at hy; omega]
    · rw [if_neg c]
      by_cases d : x < k
      · rw [if_pos d, Tr.keys, del_keys r k _ _ ho.2.2.2, filt_all (xs := l.keys) fun y hy => by have := ord_l ho hy; omega, filt_all (xs := [x]) fun y hy => by rw [List.mem_singleton] at hy; omega]
      · rw [if_neg d]
        have hx : x = k := by omega
        subst hx
        rw [filt_all (xs := r.keys) fun y hy => by have := ord_r ho hy; omega, filt_all (xs := l.keys) fun y hy => by have := ord_l ho hy; omega]
        have e0 : [x].filter (fun y => !decide (y = x)) = [] := by simp
        rw [e0, List.append_nil]
        by_cases e : l = .nil
        · rw [if_pos e, e]; rfl
        · rw [if_neg e]
          by_cases f : r = .nil
          · rw [if_pos f, f, Tr.keys, List.append_nil]
          · rw [if_neg f, Tr.keys, del_keys r (heir r) _ _ ho.2.2.2, List.append_assoc]
            congr 1
            have hk := heir_keys r f
            have hri := ord_rise _ _ _ ho.2.2.2
            generalize r.keys = ks at hk hri
            cases ks with
            | nil => cases hk
            | cons y ys =>
              have hy : y = heir r := by simpa using hk
              rw [← hy, List.filter_cons_of_neg (by simp), filt_all fun z hz => by have := List.rel_of_pairwise_cons hri hz; omega]
              rfl
theorem at_ins (k x : Int) : ∀ (t : Tr), at_ k t ≠ .nil → at_ k (t.ins x) = at_ k t ∨ at_ k (t.ins x) = (at_ k t).ins x
  | .nil, h => absurd rfl h
  | .node l y r, h => by
    rw [at_] at h ⊢
    by_cases e : y = k
    · rw [if_pos e]
      right
      rw [Tr.ins]
      split
      · rw [at_, if_pos e]
      · rw [at_, if_pos e]
    · rw [if_neg e] at h ⊢
      rw [Tr.ins]
      by_cases c : k < y
      · rw [if_pos c] at h ⊢
        split
        · rw [at_, if_neg e, if_pos c]; exact at_ins k x l h
        · rw [at_, if_neg e, if_pos c]; exact .inl rfl
      · rw [if_neg c] at h ⊢
        split
        · rw [at_, if_neg e, if_neg c]; exact .inl rfl
        · rw [at_, if_neg e, if_neg c]; exact at_ins k x r h
theorem at_ins_mem {k x y : Int} {t : Tr} (h : at_ k t ≠ .nil) (hy : y ≠ x) : y ∈ (at_ k (t.ins x)).keys ↔ y ∈ (at_ k t).keys := by
  rcases at_ins k x t h with e | e
  · rw [e]
  · rw [e, Tr.mem_ins]
    exact ⟨fun z => z.resolve_left hy, .inr⟩
open K57B in
theorem val_ins {room : Nat} {t : Tr} (ho : t.ord none none) {x : Int} (hx : x ∉ t.keys) : ∀ {n : Nat} {d : D} {k : Int}, Val room t n d k → Val room (t.ins x) n d k
  | 0, d, k, h => ⟨h.1, (Tr.mem_ins x k t).mpr (.inr h.2)⟩
  | n + 1, d, k, h => by
    obtain ⟨ds, ks, h1, h2, h3, h4, h5, h6⟩ := h
    have ne : ∀ c ∈ t.keys, at_ c t ≠ .nil := fun c hc z => by have := at_has ho hc; rw [z] at this; simp [Tr.keys] at this
    have hks : ∀ c ∈ ks, c ∈ t.keys := fun c hc => at_sub k t c (h5 c hc).2
    have hkx : ∀ c, c ∈ t.keys → c ≠ x := fun c hc z => hx (by rw [← z]; exact hc)
    refine ⟨ds, ks, h1, (Tr.mem_ins x k t).mpr (.inr h2), h3, h4.imp fun d k h => val_ins ho hx h, fun c hc => ⟨(h5 c hc).1, ?_⟩, ?_⟩
    · exact (at_ins_mem (ne k h2) (hkx c (hks c hc))).mpr (h5 c hc).2
    · refine List.Pairwise.imp_of_mem ?_ h6
      intro a b ha hb hab
      have ha' := hks a ha
      have hb' := hks b hb
      exact ⟨fun z => hab.1 ((at_ins_mem (ne b hb') (hkx a ha')).mp z), fun z => hab.2 ((at_ins_mem (ne a ha') (hkx b hb')).mp z)⟩
end K57D
namespace L3
open PySem PySem.Spec PyProof.Rows L2
theorem snever {X : Cx} {st : Stmt} : QS X st (fun _ _ _ => False) := .mk (fun _ _ _ _ _ _ h => h.elim)
section
variable {X : Cx}
end
end L3
namespace L3
open PySem PySem.Spec PyProof.Rows L2
section
variable {X : Cx}
end
end L3
namespace K57D
open PySem L2 L3 K57
def spPut (n : Nat) : Sp := fun vs H Q _ => ∃ (v : V) (k : Int) (t : Tr), vs = [v, .int k] ∧ Rep H v (Tr.d t) ∧ t.ht < n ∧ ∀ (r : V) (H' : Hp), Same H H' → Rep H' r (t.ins k).d → Q r H'
def spDel (n : Nat) : Sp := fun vs H Q _ => ∃ (v : V) (k : Int) (t : Tr) (lo hi : Option Int), vs = [v, .int k] ∧ Rep H v (Tr.d t) ∧ t.ht < n ∧ t.size ≤ 1000 ∧ t.ord lo hi ∧ k ∈ t.keys ∧ ∀ (r : V) (H' : Hp), Same H H' → Rep H' r (del t k).d → Q r H'
theorem heir_atI {t : Tr} (h : t ≠ .nil) : atI (t.keys.map V.int) 0 = some (.int (heir t)) := atI_nat (j := 0) (by rw [List.getElem?_map, heir_keys t h]; rfl)
theorem key_l {l r : Tr} {x k : Int} {lo hi : Option Int} (ho : (Tr.node l x r).ord lo hi) (h : k ∈ (Tr.node l x r).keys) (c : k < x) : k ∈ l.keys := by
  simp only [Tr.keys, List.mem_append, List.mem_singleton] at h
  rcases h with (h | h) | h
  · exact h
  · omega
  · have := ord_r ho h; omega
theorem key_r {l r : Tr} {x k : Int} {lo hi : Option Int} (ho : (Tr.node l x r).ord lo hi) (h : k ∈ (Tr.node l x r).keys) (c : x < k) : k ∈ r.keys := by
  simp only [Tr.keys, List.mem_append, List.mem_singleton] at h
  rcases h with (h | h) | h
  · have := ord_l ho h; omega
  · omega
  · exact h
theorem at_ne (k : Int) : ∀ (t : Tr) (lo hi : Option Int), t.ord lo hi → k ∈ t.keys → at_ k t ≠ .nil
  | .nil, _, _, _, h => by simp [Tr.keys] at h
  | .node l x r, lo, hi, ho, h => by
    rw [at_]
    by_cases e : x = k
    · rw [if_pos e]; exact fun z => nomatch z
    · rw [if_neg e]
      by_cases c : k < x
      · rw [if_pos c]; exact at_ne k l _ _ ho.2.2.1 (key_l ho h c)
      · rw [if_neg c]; exact at_ne k r _ _ ho.2.2.2 (key_r ho h (by omega))
def spHt (n : Nat) : Sp := fun vs H Q _ => ∃ (v : V) (t : Tr), vs = [v] ∧ Rep H v t.d ∧ t.ht < n ∧ Q (.int t.ht) H
def spPut0 : Sp := fun vs H Q _ => ∃ (v : V) (k : Int) (t : Tr), vs = [v, .int k] ∧ Rep H v (Tr.d t) ∧ t.ht < 80 ∧ t.size < 60 ∧ k ∉ t.keys ∧ ∀ (r : V) (H' : Hp), Same H H' → Rep H' r (t.ins k).d → Q r H'
def spTof : Sp := fun vs H Q _ => ∃ (a : Addr) (xs : List Int), vs = [.ref a] ∧ H a = some (.lst (xs.map V.int)) ∧ xs.Nodup ∧ xs.length ≤ 60 ∧ ∀ (r : V) (H' : Hp), Same H H' → Rep H' r (xs.foldl (fun t x => t.ins x) Tr.nil).d → Q r H'
section
variable {P : Program} {w : World} {K : PySem.W.Frag} {mg : Str → Option Value} {base : Heap}
theorem ok_wkey {f : Addr} (F : Fd K mg "with_key" s_with_key f) (T : Tx K mg) : ∀ n, Cal P w K mg base CX0 n "with_key" (spPut n) := by
  intro n
  induction n with
  | zero => exact F.none (ps := ["tree", "key"]) (fun _ _ _ _ _ _ us hl => match us, hl with | [_, _], _ => rfl) fun vs H Q E ⟨v, k, t, _, _, h2, _⟩ => by omega
  | succ n C_with_key =>
    refine F.cal sc_with_key (fun _ _ _ _ _ _ us hl => match us, hl with | [_, _], _ => rfl) (fun vs H Q E h => ?_) (fun cdv A outer s H vs Q E hr h => ?_)
    · obtain ⟨v, k, t, rfl, _⟩ := h; rfl
    · obtain ⟨v, k, t, rfl, hv, ht, q⟩ := h
      refine ⟨_, (bcons (sif (tcmp rIs (qv 0) qnon (nomark _)) (bone (sret (qtup (qcons qnon (qcons (qv 1) (qcons qnon qnil)))))) bnil)
      (bcons (sif (tcmp rLt (qv 1) (qix (xIx K) (qv 0) qint (fun _ _ => rfl)) (nomark _)) (bone (sret (qtup (qcons (qF C_with_key (hr.mono (by omega)) pass0 rfl (qcons (qix (xIx K) (qv 0) qint (fun _ _ => rfl)) (qcons (qv 1) qnil))) (qcons (qix (xIx K) (qv 0) qint (fun _ _ => rfl)) (qcons (qix (xIx K) (qv 0) qint (fun _ _ => rfl)) qnil)))))) bnil)
      (bone (sret (qtup (qcons (qix (xIx K) (qv 0) qint (fun _ _ => rfl)) (qcons (qix (xIx K) (qv 0) qint (fun _ _ => rfl)) (qcons (qF C_with_key (hr.mono (by omega)) pass0 rfl (qcons (qix (xIx K) (qv 0) qint (fun _ _ => rfl)) (qcons (qv 1) qnil))) qnil)))))))), ?_⟩
      cases t with
      | nil =>
        cases rep_nil hv
        refine ⟨_, rfl, rfl, _, rfl, ?_⟩
        exact ⟨_, rfl, (show 3 ≤ sizeLine by decide), fun a H1 n1 s1 e1 _ => q _ _ s1 (rep_mk e1 .non .non)⟩
      | node l x r =>
        obtain ⟨a, vl, vr, rfl, ea, hl, hr'⟩ := rep_node hv
        refine ⟨_, rfl, rfl, _, rfl, ?_⟩
        refine ⟨_, rfl, _, rfl, a, _, 1, _, rfl, rfl, .inr (SqT.of ea), atI_nat (j := 1) rfl, _, _, rfl, rfl, _, rfl, ?_⟩
        simp only [Tr.ht] at ht
        refine ite2 (fun hlt => ?_) (fun hlt => ?_)
        · have hlt : k < x := of_decide_eq_true hlt
          refine ⟨_, rfl, a, _, 0, _, rfl, rfl, .inr (SqT.of ea), atI_nat (j := 0) rfl, _, rfl, vl, k, l, rfl, hl, by omega, fun r1 H1 s1 g1 => ?_⟩
          have ea1 := s1 _ _ ea
          refine ⟨_, rfl, a, _, 1, _, rfl, rfl, .inr (SqT.of ea1), atI_nat (j := 1) rfl, _, rfl, a, _, 2, _, rfl, rfl, .inr (SqT.of ea1), atI_nat (j := 2) rfl, (show 3 ≤ sizeLine by decide), fun a2 H2 n2 s2 e2 _ => ?_⟩
          refine q _ _ (s1.trans s2) ?_
          rw [Tr.ins, if_pos hlt]
          exact rep_mk e2 (g1.mono s2) (hr'.mono (s1.trans s2))
        · have hlt : ¬ k < x := fun z => hlt (decide_eq_true z)
          refine ⟨_, rfl, a, _, 0, _, rfl, rfl, .inr (SqT.of ea), atI_nat (j := 0) rfl, _, rfl, a, _, 1, _, rfl, rfl, .inr (SqT.of ea), atI_nat (j := 1) rfl, _, rfl, a, _, 2, _, rfl, rfl, .inr (SqT.of ea), atI_nat (j := 2) rfl, _, rfl, vr, k, r, rfl, hr', by omega, fun r1 H1 s1 g1 => ?_⟩
          refine ⟨(show 3 ≤ sizeLine by decide), fun a2 H2 n2 s2 e2 _ => ?_⟩
          refine q _ _ (s1.trans s2) ?_
          rw [Tr.ins, if_neg hlt]
          exact rep_mk e2 (hl.mono (s1.trans s2)) (g1.mono s2)
theorem ok_wo {f : Addr} (F : Fd K mg "without_key" s_without_key f) (T : Tx K mg) (C_keys_of : Cal P w K mg base CX0 82 "keys_of" (spKof 82)) : ∀ n, n ≤ 80 → Cal P w K mg base CX0 (n + 82) "without_key" (spDel n) := by
  intro n
  induction n with
  | zero => exact fun _ => (F.none (ps := ["tree", "key"]) (fun _ _ _ _ _ _ us hl => match us, hl with | [_, _], _ => rfl) fun vs H Q E ⟨v, k, t, lo, hi, _, _, h2, _⟩ => by omega).mono (by decide)
  | succ n ih =>
    intro hn
    have C_without_key := ih (by omega)
    refine F.cal sc_without_key (fun _ _ _ _ _ _ us hl => match us, hl with | [_, _], _ => rfl) (fun vs H Q E h => ?_) (fun cdv A outer s H vs Q E hr h => ?_)
    · obtain ⟨v, k, t, lo, hi, rfl, _⟩ := h; rfl
    · obtain ⟨v, k, t, lo, hi, rfl, hv, ht, hz, ho, hk, q⟩ := h
      refine ⟨_, (bcons (sif (tcmp rLt (qv 1) (qix (xIx K) (qv 0) qint (fun _ _ => rfl)) (nomark _)) (bone (sret (qtup (qcons (qF C_without_key (hr.mono (by omega)) pass0 rfl (qcons (qix (xIx K) (qv 0) qint (fun _ _ => rfl)) (qcons (qv 1) qnil))) (qcons (qix (xIx K) (qv 0) qint (fun _ _ => rfl)) (qcons (qix (xIx K) (qv 0) qint (fun _ _ => rfl)) qnil)))))) bnil)
      (bcons (sif (tcmp rGt (qv 1) (qix (xIx K) (qv 0) qint (fun _ _ => rfl)) (nomark _)) (bone (sret (qtup (qcons (qix (xIx K) (qv 0) qint (fun _ _ => rfl)) (qcons (qix (xIx K) (qv 0) qint (fun _ _ => rfl)) (qcons (qF C_without_key (hr.mono (by omega)) pass0 rfl (qcons (qix (xIx K) (qv 0) qint (fun _ _ => rfl)) (qcons (qv 1) qnil))) qnil)))))) bnil)
      (bcons (sif (tcmp rIs (qix (xIx K) (qv 0) qint (fun _ _ => rfl)) qnon (nomark _)) (bone (sret (qix (xIx K) (qv 0) qint (fun _ _ => rfl)))) bnil)
      (bcons (sif (tcmp rIs (qix (xIx K) (qv 0) qint (fun _ _ => rfl)) qnon (nomark _)) (bone (sret (qix (xIx K) (qv 0) qint (fun _ _ => rfl)))) bnil)
      (bcons (sset (i := 2) sc_without_key.nd rfl (by first | exact Or.inl rfl | exact Or.inr rfl) (qix (xIx K) (qF C_keys_of (hr.mono (by omega)) pass0 rfl (qcons (qix (xIx K) (qv 0) qint (fun _ _ => rfl)) qnil)) qint (fun _ _ => rfl)))
      (bone (sret (qtup (qcons (qix (xIx K) (qv 0) qint (fun _ _ => rfl)) (qcons (qv 2) (qcons (qF C_without_key (hr.mono (by omega)) pass0 rfl (qcons (qix (xIx K) (qv 0) qint (fun _ _ => rfl)) (qcons (qv 2) qnil))) qnil))))))))))), ?_⟩
      cases t with
      | nil => simp [Tr.keys] at hk
      | node l x r =>
        obtain ⟨a, vl, vr, rfl, ea, hl, hr'⟩ := rep_node hv
        simp only [Tr.ht] at ht
        simp only [Tr.size] at hz
        refine ⟨_, rfl, _, rfl, a, _, 1, _, rfl, rfl, .inr (SqT.of ea), atI_nat (j := 1) rfl, _, _, rfl, rfl, _, rfl, ?_⟩
        refine ite2 (fun hlt => ?_) (fun hlt => ?_)
        · have hlt : k < x := of_decide_eq_true hlt
          refine ⟨_, rfl, a, _, 0, _, rfl, rfl, .inr (SqT.of ea), atI_nat (j := 0) rfl, _, rfl, vl, k, l, _, _, rfl, hl, by omega, by omega, ho.2.2.1, key_l ho hk hlt, fun r1 H1 s1 g1 => ?_⟩
          have ea1 := s1 _ _ ea
          refine ⟨_, rfl, a, _, 1, _, rfl, rfl, .inr (SqT.of ea1), atI_nat (j := 1) rfl, _, rfl, a, _, 2, _, rfl, rfl, .inr (SqT.of ea1), atI_nat (j := 2) rfl, (show 3 ≤ sizeLine by decide), fun a2 H2 n2 s2 e2 _ => ?_⟩
          refine q _ _ (s1.trans s2) ?_
          rw [del, if_pos hlt]
          exact rep_mk e2 (g1.mono s2) (hr'.mono (s1.trans s2))
        · have hlt : ¬ k < x := fun z => hlt (decide_eq_true z)
          refine ⟨_, rfl, _, rfl, a, _, 1, _, rfl, rfl, .inr (SqT.of ea), atI_nat (j := 1) rfl, _, _, rfl, rfl, _, rfl, ?_⟩
          refine ite2 (fun hgt => ?_) (fun hgt => ?_)
          · have hgt : x < k := of_decide_eq_true hgt
            refine ⟨_, rfl, a, _, 0, _, rfl, rfl, .inr (SqT.of ea), atI_nat (j := 0) rfl, _, rfl, a, _, 1, _, rfl, rfl, .inr (SqT.of ea), atI_nat (j := 1) rfl, _, rfl, a, _, 2, _, rfl, rfl, .inr (SqT.of ea), atI_nat (j := 2) rfl, _, rfl, vr, k, r, _, _, rfl, hr', by omega, by omega, ho.2.2.2, key_r ho hk hgt, fun r1 H1 s1 g1 => ?_⟩
            refine ⟨(show 3 ≤ sizeLine by decide), fun a2 H2 n2 s2 e2 _ => ?_⟩
            refine q _ _ (s1.trans s2) ?_
            rw [del, if_neg hlt, if_pos hgt]
            exact rep_mk e2 (hl.mono (s1.trans s2)) (g1.mono s2)
          · have hgt : ¬ x < k := fun z => hgt (decide_eq_true z)
            rw [del, if_neg hlt, if_neg hgt] at q
            refine ⟨_, rfl, a, _, 0, _, rfl, rfl, .inr (SqT.of ea), atI_nat (j := 0) rfl, rfl, _, rfl, ?_⟩
            cases l with
            | nil =>
              cases rep_nil hl
              rw [if_pos rfl] at q
              exact ⟨_, rfl, a, _, 2, _, rfl, rfl, .inr (SqT.of ea), atI_nat (j := 2) rfl, q _ _ (Same.refl _) hr'⟩
            | node l1 x1 r1 =>
              obtain ⟨a1, vl1, vr1, rfl, ea1, _, _⟩ := rep_node hl
              rw [if_neg (fun h => nomatch h)] at q
              refine iteF ?_
              refine ⟨_, rfl, a, _, 2, _, rfl, rfl, .inr (SqT.of ea), atI_nat (j := 2) rfl, rfl, _, rfl, ?_⟩
              cases r with
              | nil =>
                cases rep_nil hr'
                rw [if_pos rfl] at q
                exact ⟨_, rfl, a, _, 0, _, rfl, rfl, .inr (SqT.of ea), atI_nat (j := 0) rfl, q _ _ (Same.refl _) hl⟩
              | node l2 x2 r2 =>
                obtain ⟨a2, vl2, vr2, rfl, ea2, _, _⟩ := rep_node hr'
                rw [if_neg (fun h => nomatch h)] at q
                refine iteF ?_
                have hne : Tr.node l2 x2 r2 ≠ .nil := fun h => nomatch h
                refine ⟨_, rfl, a, _, 2, _, rfl, rfl, .inr (SqT.of ea), atI_nat (j := 2) rfl, _, _, rfl, hr', by omega, by omega, fun b3 H3 n3 s3 e3 => ?_⟩
                refine ⟨b3, _, _, _, rfl, rfl, .inl (SqL.of e3), heir_atI hne, ?_⟩
                have ea3 := s3 _ _ ea
                refine ⟨_, rfl, a, _, 0, _, rfl, rfl, .inr (SqT.of ea3), atI_nat (j := 0) rfl, _, rfl, _, rfl, a, _, 2, _, rfl, rfl, .inr (SqT.of ea3), atI_nat (j := 2) rfl, _, rfl, _, _, _, _, _, rfl, hr'.mono s3, by omega, by omega, ho.2.2.2, heir_mem hne, fun r4 H4 s4 g4 => ?_⟩
                refine ⟨(show 3 ≤ sizeLine by decide), fun a5 H5 n5 s5 e5 _ => ?_⟩
                exact q _ _ ((s3.trans s4).trans s5) (rep_mk e5 (hl.mono ((s3.trans s4).trans s5)) (g4.mono s5))
theorem ok_taken {f : Addr} (F : Fd K mg "taken" s_taken f) (T : Tx K mg) (C_knot_at : Cal P w K mg base CX0 2 "knot_at" K57B.spKat) (C_without_key : Cal P w K mg base CX0 162 "without_key" (spDel 80)) : Cal P w K mg base CX0 164 "taken" (spDel 80) := by
  refine F.cal sc_taken (fun _ _ _ _ _ _ us hl => match us, hl with | [_, _], _ => rfl) (fun vs H Q E h => ?_) (fun cdv A outer s H vs Q E hr h => ?_)
  · obtain ⟨v, k, t, lo, hi, rfl, _⟩ := h; rfl
  · obtain ⟨v, k, t, lo, hi, rfl, hv, ht, hz, ho, hk, q⟩ := h
    refine ⟨_, (bcons (sif (tcmp rIs (qF C_knot_at (hr.mono (by omega)) pass0 rfl (qcons (qv 0) (qcons (qv 1) qnil))) qnon (nomark _)) (bone snever) bnil)
      (bone (sret (qF C_without_key (hr.mono (by omega)) pass0 rfl (qcons (qv 0) (qcons (qv 1) qnil)))))), ?_⟩
    refine ⟨_, rfl, _, rfl, v, t, k, rfl, hv, fun v' g' => ?_⟩
    have hne := at_ne k t _ _ ho hk
    cases ht' : at_ k t with
    | nil => exact absurd ht' hne
    | node l x r =>
      rw [ht'] at g'
      obtain ⟨a, vl, vr, rfl, ea, _, _⟩ := rep_node g'
      refine ⟨rfl, _, rfl, ?_⟩
      refine iteF ?_
      exact ⟨_, rfl, _, rfl, v, k, t, _, _, rfl, hv, ht, hz, ho, hk, q⟩
theorem ok_ht {f : Addr} (F : Fd K mg "height" s_height f) (T : Tx K mg) : ∀ n, Cal P w K mg base CX0 n "height" (spHt n) := by
  intro n
  induction n with
  | zero => exact (F.none (ps := ["tree"]) (fun _ _ _ _ _ _ us hl => match us, hl with | [_], _ => rfl) fun vs H Q E ⟨v, t, _, _, h2, _⟩ => by omega)
  | succ n C_height =>
    refine F.cal sc_height (fun _ _ _ _ _ _ us hl => match us, hl with | [_], _ => rfl) (fun vs H Q E h => ?_) (fun cdv A outer s H vs Q E hr h => ?_)
    · obtain ⟨v, t, rfl, _⟩ := h; rfl
    · obtain ⟨v, t, rfl, hv, ht, q⟩ := h
      refine ⟨_, (bcons (sif (tcmp rIs (qv 0) qnon (nomark _)) (bone (sret qint)) bnil)
      (bone (sret (qop rAdd qint (qB fMax2 rfl T.b_max bt_max (qcons (qF C_height (hr.mono (by omega)) pass0 rfl (qcons (qix (xIx K) (qv 0) qint (fun _ _ => rfl)) qnil)) (qcons (qF C_height (hr.mono (by omega)) pass0 rfl (qcons (qix (xIx K) (qv 0) qint (fun _ _ => rfl)) qnil)) qnil))))))), ?_⟩
      cases t with
      | nil =>
        cases rep_nil hv
        exact ⟨_, rfl, rfl, _, rfl, q⟩
      | node l x r =>
        obtain ⟨a, vl, vr, rfl, ea, hl, hr'⟩ := rep_node hv
        simp only [Tr.ht] at ht
        refine ⟨_, rfl, rfl, _, rfl, ?_⟩
        refine iteF ?_
        refine ⟨_, rfl, a, _, 0, _, rfl, rfl, .inr (SqT.of ea), atI_nat (j := 0) rfl, vl, l, rfl, hl, by omega, _, rfl, a, _, 2, _, rfl, rfl, .inr (SqT.of ea), atI_nat (j := 2) rfl, vr, r, rfl, hr', by omega, _, _, rfl, ?_⟩
        have e : (1 : Int) + (if (r.ht : Int) > (l.ht : Int) then (r.ht : Int) else (l.ht : Int)) = (((Tr.node l x r).ht : Nat) : Int) := by
          rw [Tr.ht]
          split <;> omega
        show Q (.int _) H
        rw [e]; exact q
theorem ok_put {f : Addr} (F : Fd K mg "put" s_put f) (T : Tx K mg) (C_knot_at : Cal P w K mg base CX0 2 "knot_at" K57B.spKat) (C_keys_of : Cal P w K mg base CX0 82 "keys_of" (spKof 82)) (C_with_key : Cal P w K mg base CX0 80 "with_key" (spPut 80)) : Cal P w K mg base CX0 83 "put" spPut0 := by
  refine F.cal sc_put (fun _ _ _ _ _ _ us hl => match us, hl with | [_, _], _ => rfl) (fun vs H Q E h => ?_) (fun cdv A outer s H vs Q E hr h => ?_)
  · obtain ⟨v, k, t, rfl, _⟩ := h; rfl
  · obtain ⟨v, k, t, rfl, hv, ht, hz, hk, q⟩ := h
    refine ⟨_, (bcons (sif (tcmp rIsNot (qF C_knot_at (hr.mono (by omega)) pass0 rfl (qcons (qv 0) (qcons (qv 1) qnil))) qnon (nomark _)) (bone snever) bnil)
      (bcons (sif (tcmp rGe (qB (fLen K) rfl T.b_len bt_len (qcons (qF C_keys_of (hr.mono (by omega)) pass0 rfl (qcons (qv 0) qnil)) qnil)) (qglobI rfl T.g_MOST_KEYS) (nomark _)) (bone snever) bnil)
      (bone (sret (qF C_with_key (hr.mono (by omega)) pass0 rfl (qcons (qv 0) (qcons (qv 1) qnil))))))), ?_⟩
    refine ⟨_, rfl, _, rfl, v, t, k, rfl, hv, fun v' g' => ?_⟩
    have hnil : at_ k t = .nil := Classical.byContradiction fun z => hk (K57B.at_mem z)
    rw [hnil] at g'
    cases rep_nil g'
    refine ⟨rfl, _, rfl, ?_⟩
    refine iteF ?_
    refine ⟨_, rfl, v, t, rfl, hv, by omega, by omega, fun r1 H1 n1 s1 e1 => ?_⟩
    refine ⟨r1, _, rfl, .inl (SqL.of e1), _, _, rfl, rfl, _, rfl, ?_⟩
    have hl := Tr.keys_length t
    rw [List.length_map, decide_eq_false (show ¬ (60 : Int) ≤ ((t.keys.length : Nat) : Int) by omega)]
    refine iteF ?_
    exact ⟨_, rfl, _, rfl, v, k, t, rfl, hv.mono s1, ht, fun r H' s' g => q r H' (s1.trans s') g⟩
end
end K57D
namespace L3
open PySem PySem.Spec PyProof.Rows L2
theorem sub_len : ∀ {xs P : List Int}, xs.Nodup → (∀ x ∈ xs, x ∈ P) → xs.length ≤ P.length
  | [], _, _, _ => Nat.zero_le _
  | x :: xs, P, hn, hs => by
    have hx := hs x (List.mem_cons_self ..)
    have hn' := List.nodup_cons.mp hn
    have h1 := sub_len (xs := xs) (P := P.erase x) hn'.2 fun y hy => (List.mem_erase_of_ne (fun e => hn'.1 (by rw [← e]; exact hy))).mpr (hs y (List.mem_cons_of_mem _ hy))
    rw [List.length_erase_of_mem hx] at h1
    have := List.length_pos_of_mem hx
    rw [List.length_cons]; omega
theorem sub_full : ∀ {ns l : List Int}, l.Nodup → (∀ x ∈ l, x ∈ ns) → l.length = ns.length → ns.Nodup
  | [], _, _, _, _ => List.nodup_nil
  | x :: ns, l, hn, hs, hl => by
    rw [List.length_cons] at hl
    have hx : x ∉ ns := fun z => by
      have := sub_len (P := ns) hn fun y hy => by
        rcases List.mem_cons.mp (hs y hy) with e | e
        · rw [e]; exact z
        · exact e
      omega
    have hxl : x ∈ l := Classical.byContradiction fun z => by
      have := sub_len (P := ns) hn fun y hy => by
        rcases List.mem_cons.mp (hs y hy) with e | e
        · exact absurd (by rw [← e]; exact hy) z
        · exact e
      omega
    refine List.nodup_cons.mpr ⟨hx, sub_full (l := l.erase x) (hn.erase x) (fun y hy => ?_) ?_⟩
    · have h1 := (List.Nodup.mem_erase_iff hn).mp hy
      exact (List.mem_cons.mp (hs y h1.2)).resolve_left h1.1
    · rw [List.length_erase_of_mem hxl]; omega
theorem met_all (ns : List Int) : (firstMet (fun i => ns.getD i 0) ns.length).length ≤ ns.length ∧ ((firstMet (fun i => ns.getD i 0) ns.length).length = ns.length ↔ ns.Nodup) := by
  have hm : ∀ k, k ∈ firstMet (fun i => ns.getD i 0) ns.length ↔ k ∈ ns := fun k => by
    have := firstMet_any (fun i => ns.getD i 0) ns.length k
    rw [range_getD] at this
    have key : ∀ l : List Int, l.any (· == k) = true ↔ k ∈ l := fun l => by
      rw [List.any_eq_true]
      constructor
      · rintro ⟨x, hx, e⟩
        rw [← eq_of_beq e]; exact hx
      · intro h; exact ⟨k, h, by simp⟩
    rw [← key, ← key, this]
  have hn := met_nodup (fun i => ns.getD i 0) ns.length
  generalize firstMet (fun i => ns.getD i 0) ns.length = l at hm hn
  have h1 := sub_len (P := ns) hn fun y hy => (hm y).mp hy
  refine ⟨h1, fun h => sub_full hn (fun y hy => (hm y).mp hy) h, fun h => ?_⟩
  have := sub_len (P := l) h fun y hy => (hm y).mpr hy
  omega
section
variable {X : Cx}
def tLenSetX (K : PySem.W.Frag) (ta : TA) : TE := fun σ H Q => ta σ H fun vs H1 => ∃ (a : Addr) (ns : List Int), vs = [.ref a] ∧ SqL K H1 a (ns.map V.int) ∧ ns.length ≤ 1000 ∧ ∀ m : Nat, m ≤ ns.length → (m = ns.length ↔ ns.Nodup) → Q (.int (m : Int)) H1
theorem pe_lenSetX {e : Expr} {ta : TA} {p1 p2 pos1 pos : Pos} (hc : X.calm = true) (hg : Gl X "len") (hm : X.mg "len" = none) (hg2 : Gl X "set") (hm2 : X.mg "set" = none) (ha : PA X [e] ta) (hs : starEach [e] X.env = [(false, eval e X.env)]) :
    PE X (.Call (.Name "len" p1) [.Call (.Name "set" p2) [e] [] pos1] [] pos) (tLenSetX X.K ta) := by
  intro pins s σ H Q I h
  refine Call_ (ld_blt I hg hm bt_len (Calls.callWith_builtin rfl (Calls.evalArgs_plain (Calls.spliced_cons ?_))))
  refine Call_ (ld_blt I hg2 hm2 bt_set (PyProof.Rows.callWith_type1 (thn (ha pos1 pins s σ H _ I h) fun us s1 ⟨vs, H1, I1, r1, q1⟩ => ?_) hs rfl))
  obtain ⟨a, ns, e, hL, hlen, q⟩ := q1
  subst e
  obtain ⟨u, rfl, ru⟩ := vals1 r1
  cases ru
  obtain ⟨its, r, hl, hz⟩ := I1.list hL
  have hi : IntsAre its.toArray.toList ns := intsAre_of r
  have hl2 : its.length = ns.length := by have := r.length; rw [List.length_map] at this; exact this.symm
  have hl3 : its.toArray.size = ns.length := by rw [List.size_toArray, hl2]
  refine call_set_list (I1.ok.hd hc) hl.isList hi (by rw [hl3]; unfold scanBound; omega) fun h' tk hS hk => ?_
  rw [hl3] at hS
  refine Calls.spliced_nil ?_
  obtain ⟨o, es, ep, t, ho, hex, hd, _, _, hsc, hf, hn⟩ := hS
  have hm1 := met_all ns
  rw [← hn] at hm1
  refine call_len_set ho hex hd hf (by unfold scanBound at hsc; omega) ?_
  refine ⟨.int (es.size : Int), H1, I1.kept (t' := tk + 1 + 1) (fun b o e => hk b o (Heap.lt_size e) e), ⟨_, rfl⟩, q _ hm1.1 hm1.2⟩
theorem qLenSetX {e : Expr} {ta : TA} {p1 p2 pos1 pos : Pos} (K : PySem.W.Frag) (hg : Gl X "len") (hm : X.mg "len" = none) (hg2 : Gl X "set") (hm2 : X.mg "set" = none) (ha : QA X [e] ta) (h : notStar e = true := by rfl) (hc : X.calm = true := by rfl) (hK : X.K = K := by rfl) :
    QE X (.Call (.Name "len" p1) [.Call (.Name "set" p2) [e] [] pos1] [] pos) (tLenSetX K ta) := by
  subst hK
  exact .mk (pe_lenSetX hc hg hm hg2 hm2 ha.un (by rw [star_cons h, star_nil]))
theorem op_isO : OpR X (compareOp .Is) (fun x y H Q => ∃ b, y = .bl b ∧ (x = .non ∨ ∃ a, x = .ref a) ∧ Q (.bl false) H) := by
  intro pins s σ H x y v u Q I rx ry h
  obtain ⟨b, rfl, hx, q⟩ := h
  cases ry
  rcases hx with rfl | ⟨a, rfl⟩
  · cases rx
    refine wpAny_is_other rfl (fun z => nomatch z) (fin_bl I q rfl)
  · cases rx
    refine wpAny_is_other rfl (fun z => nomatch z) (fin_bl I q rfl)
theorem rIsO : ROp X (compareOp .Is) (fun x y H Q => ∃ b, y = .bl b ∧ (x = .non ∨ ∃ a, x = .ref a) ∧ Q (.bl false) H) := .mk op_isO
end
end L3
namespace K57D
open PySem L2 L3 K57
theorem filter_row : ∀ {tb : Tab} {k : Int} {m : Int × Int}, (tb.map (·.1)).Nodup → (k, m) ∈ tb → tb.filter (fun e => decide (e.1 = k)) = [(k, m)]
  | [], _, _, _, h => by cases h
  | e :: r, k, m, hn, h => by
    obtain ⟨h1, h2⟩ := List.nodup_cons.mp (show (e.1 :: r.map (·.1)).Nodup from hn)
    rcases List.mem_cons.mp h with z | z
    · rw [← z] at h1 ⊢
      rw [List.filter_cons_of_pos (by simp), List.filter_eq_nil_iff.mpr]
      intro x hx e
      exact h1 (List.mem_map.mpr ⟨x, hx, of_decide_eq_true e⟩)
    · rw [List.filter_cons_of_neg]
      · exact filter_row h2 z
      · intro e1
        exact h1 (List.mem_map.mpr ⟨_, z, (of_decide_eq_true e1).symm⟩)
theorem rep_row {H : Hp} {v : V} {e : Int × Int × Int} (h : Rep H v (L3.rowD e)) : ∃ b, v = .ref b ∧ H b = some (.tup [.int e.1, .int e.2.1, .int e.2.2]) := by
  obtain ⟨a, vs, rfl, ea, rs⟩ := rep_tup h
  cases rs with
  | cons h1 rs =>
    cases rs with
    | cons h2 rs =>
      cases rs with
      | cons h3 rs =>
        cases rs
        cases rep_int h1
        cases rep_int h2
        cases rep_int h3
        exact ⟨a, rfl, ea⟩
theorem pt_io (room : Int) : ∀ (t : Tr) (e : Int × Int × Int), e ∈ t.pt room → e ∈ t.io room
  | .nil, e, h => h
  | .node l k r, e, h => by
    simp only [Tr.io, Tr.pt, List.mem_append, List.mem_singleton] at h ⊢
    rcases h with (h | h) | h
    · exact .inl (.inl (pt_io room l e h))
    · exact .inr (pt_io room r e h)
    · exact .inl (.inr h)
def spNb : Sp := fun vs H Q _ => ∃ (v : V) (t : Tr) (room : Nat), vs = [v, .int (room : Int)] ∧ Rep H v t.d ∧ t.ord none none ∧ t.size ≤ 60 ∧ 1 ≤ room ∧ room ≤ 100 ∧ ∀ (N : Nat) H', Num room t N → Same H H' → Q (.int (N : Int)) H'
section
variable {P : Program} {w : World} {K : PySem.W.Frag} {mg : Str → Option Value} {base : Heap}
theorem ok_tof {f : Addr} (F : Fd K mg "tree_of" s_tree_of f) (T : Tx K mg) (C_with_key : Cal P w K mg base CX0 80 "with_key" (spPut 80)) : Cal P w K mg base CX0 81 "tree_of" spTof := by
  refine F.cal sc_tree_of (fun _ _ _ _ _ _ us hl => match us, hl with | [_], _ => rfl) (fun vs H Q E h => ?_) (fun cdv A outer s H vs Q E hr h => ?_)
  · obtain ⟨a, xs, rfl, _⟩ := h; rfl
  · obtain ⟨a, xs, rfl, ea, hn, hl, q⟩ := h
    refine ⟨_, (bcons (sif (tcmp rLt (qLenSetX K rfl T.b_len rfl T.b_set (qcons (qv 0) qnil)) (qB (fLen K) rfl T.b_len bt_len (qcons (qv 0) qnil)) (nomark _)) (bone snever) bnil)
      (bcons (sset (i := 1) sc_tree_of.nd rfl (by first | exact Or.inl rfl | exact Or.inr rfl) qnon)
      (bcons (sfor PassesOwn.never rfl (iseq K (qv 0)) (gname (i := 2) sc_tree_of.nd rfl (by first | exact Or.inl rfl | exact Or.inr rfl))
        (bone (sset (i := 1) sc_tree_of.nd rfl (by first | exact Or.inl rfl | exact Or.inr rfl) (qF C_with_key (hr.mono (by omega)) pass0 rfl (qcons (qv 1) (qcons (qv 2) qnil))))))
      (bone (sret (qv 1)))))), ?_⟩
    refine ⟨_, rfl, a, xs, rfl, SqL.of ea, by omega, fun m _ hm => ?_⟩
    have hm := hm.mpr hn
    subst hm
    refine ⟨_, rfl, a, _, rfl, .inl (SqL.of ea), _, _, rfl, rfl, _, rfl, ?_⟩
    rw [List.length_map, decide_eq_false (show ¬ ((xs.length : Nat) : Int) < ((xs.length : Nat) : Int) by omega)]
    refine iteF ?_
    refine ⟨_, rfl, a, rfl, .inl ⟨⟨_, SqL.of ea⟩, for_list (xs := xs.map V.int) (fun i σ H' => ∃ v z, σ = [some (.ref a), some v, z] ∧ Same H H' ∧ Rep H' v ((xs.take i).foldl (fun t x => t.ins x) Tr.nil).d)
      ⟨.non, none, rfl, Same.refl _, .non⟩ (fun i σ H' _ ⟨_, _, _, s', _⟩ => SqL.of (s' _ _ ea)) ?_ ?_⟩⟩
    · rintro i y σ H1 hy ⟨v, z, rfl, s1, g1⟩
      rw [List.getElem?_map] at hy
      obtain ⟨k, hk, rfl⟩ := Option.map_eq_some_iff.mp hy
      have hi := (List.getElem?_eq_some_iff.mp hk).1
      have hsz := Tr.size_foldl (xs.take i) Tr.nil
      rw [List.length_take] at hsz
      have hht := Tr.ht_size ((xs.take i).foldl (fun t x => t.ins x) Tr.nil)
      have h0 : Tr.nil.size = 0 := rfl
      refine ⟨_, rfl, _, rfl, v, k, _, rfl, g1, by omega, fun r H2 s2 g2 => ?_⟩
      refine ⟨r, _, rfl, s1.trans s2, ?_⟩
      rw [List.take_add_one, hk, List.foldl_append]
      exact g2
    · rintro σ H1 ⟨v, z, rfl, s1, g1⟩
      rw [List.length_map, List.take_length] at g1
      exact ⟨_, rfl, q v H1 s1 g1⟩
theorem ok_nb {f : Addr} (F : Fd K mg "_law_number" s_law_number f) (T : Tx K mg) (C_number_of : Cal P w K mg base CX0 1 "number_of" K57B.spNof) (C_from_below : Cal P w K mg base CX0 84 "from_below" K57B.spFb) (C_marks : Cal P w K mg base CX0 84 "marks" spMarks) : Cal P w K mg base CX0 85 "_law_number" spNb := by
  refine F.cal sc_law_number (fun _ _ _ _ _ _ us hl => match us, hl with | [_, _], _ => rfl) (fun vs H Q E h => ?_) (fun cdv A outer s H vs Q E hr h => ?_)
  · obtain ⟨v, t, room, rfl, _⟩ := h; rfl
  · obtain ⟨v, t, room, rfl, hv, ho, hz, hr1, hr2, q⟩ := h
    have hht := Tr.ht_size t
    have hkl := Tr.keys_length t
    refine ⟨_, (bcons (sif (tcmp rIs (qv 0) qnon (nomark _)) (bone (sret qint)) bnil)
      (bcons (sset (i := 2) sc_law_number.nd rfl (by first | exact Or.inl rfl | exact Or.inr rfl) (qF C_number_of (hr.mono (by omega)) pass0 rfl (qcons (qF C_from_below (hr.mono (by omega)) pass0 rfl (qcons (qv 0) (qcons (qv 1) qnil))) qnil)))
      (bcons (sset (i := 3) sc_law_number.nd rfl (by first | exact Or.inl rfl | exact Or.inr rfl) (qix (xIx K) (qcomp (sc := defScope s_law_number) (NX := ["_law_tree", "_law_room", "_law_number_here", "_law_level"]) ["_law_row", "_law_tree"] [none, some 0] rfl (iseq K (qF C_marks (hr.mono (by omega)) pass0 rfl (qcons (qv 0) (qcons (qv 1) qnil)))) (fun _ _ _ => (gname (i := 0) (show (["_law_row", "_law_tree"] : List Str).Nodup by decide +kernel) rfl (by first | exact Or.inl rfl | exact Or.inr rfl))) (fun _ _ _ => (csone (tcmp (rEqq hr) (qix (xIx K) (qv 0) qint (fun _ _ => rfl)) (qix (xIx K) (qv 1) qint (fun _ _ => rfl)) (nomark _)))) (fun _ _ _ => (qix (xIx K) (qv 0) qint (fun _ _ => rfl))) rfl rfl (by decide +kernel)) qint (fun _ _ => rfl)))
      (bone (sret (qix (xIx K) (qlst (qcons (qv 2) (qcons (qop rPow qint qint) qnil))) (qTy fInt rfl T.b_int bt_int (qcons (qcmp rGt (qv 2) (qv 3) (nomark _)) qnil)) (fun _ _ => rfl))))))), ?_⟩
    by_cases hne : t = .nil
    · subst hne
      cases rep_nil hv
      refine ⟨_, rfl, rfl, _, rfl, ?_⟩
      exact q 0 H (num_nil room) (Same.refl _)
    obtain ⟨tl, tk, tr, htn⟩ : ∃ l k r, t = .node l k r := by
      cases t with
      | nil => exact absurd rfl hne
      | node l k r => exact ⟨l, k, r, rfl⟩
    have ndA : t.keys.Nodup := (ord_rise _ _ _ ho).imp fun h => Int.ne_of_lt h
    obtain ⟨va, wl, wr, hva, eva, _, _⟩ := rep_node (show Rep H v (Tr.node tl tk tr).d by rw [← htn]; exact hv)
    subst hva
    refine ⟨_, rfl, rfl, _, rfl, ?_⟩
    refine iteF ?_
    refine ⟨_, rfl, _, rfl, (.ref va), t, room, rfl, hv, hne, ho, by omega, hz, hr1, hr2, fun y H1 n p ps s1 hp1 hp2 g1 => ?_⟩
    obtain ⟨ks, hvs, _, _⟩ := K57B.pn_val ho room n t (fun _ => by rw [htn]; exact K57B.at_self)
    rw [hp1] at hvs
    obtain ⟨k0, hval⟩ : ∃ k, K57B.Val room t n p k := by
      cases hvs with
      | cons h _ => exact ⟨_, h⟩
    refine ⟨y, p, room, n, t, k0, rfl, g1, hr1, hval, ?_⟩
    refine ⟨_, rfl, _, rfl, (.ref va), t, (room : Int), rfl, hv.mono s1, by omega, by omega, ndA, fun r1 L1 ws ln ls le lg => ?_⟩
    have hlen := lg.length
    rw [List.length_map] at hlen
    have hil : (t.io (room : Int)).length = t.size := by
      have := congrArg List.length (Tr.io_keys (room : Int) t)
      rw [List.length_map, Tr.keys_length] at this
      exact this
    refine ⟨r1, rfl, .inl ⟨⟨_, SqL.of le⟩, fun ac hac => ?_⟩⟩
    refine comp_list (xs := ws) (fun j ys σ H' => ∃ z, σ = [z, some (.ref va)] ∧ Same L1 H' ∧ H' ac = some (.lst ys) ∧ ys = (((t.io (room : Int)).take j).filter (fun e => decide (e.1 = tk))).map (fun e => V.int e.2.1)) ⟨none, rfl, same_new hac, upd_same, rfl⟩ (fun j ys σ H' ⟨_, _, s', _⟩ => SqL.of (s' _ _ le)) ?_ ?_
    · rintro j ys y σ G hy hj ⟨z, rfl, sG, eG, rfl⟩
      obtain ⟨e, he, ge⟩ := reps_map lg hy
      obtain ⟨b, rfl, eb⟩ := rep_row ge
      have s0G := (s1.trans ls).trans sG
      have htk : ((t.io (room : Int)).take (j + 1)).filter (fun e => decide (e.1 = tk)) = ((t.io (room : Int)).take j).filter (fun e => decide (e.1 = tk)) ++ (if decide (e.1 = tk) = true then [e] else []) := by
        rw [List.take_add_one, he, List.filter_append]
        congr 1
        show List.filter _ [e] = _
        rw [List.filter_cons]; rfl
      refine ⟨_, rfl, b, _, 0, _, rfl, rfl, .inr (SqT.of (sG _ _ eb)), atI_nat (j := 0) rfl, _, rfl, va, _, 1, _, rfl, rfl, .inr (SqT.of (s0G _ _ eva)), atI_nat (j := 1) rfl, _, rfl, ?_⟩
      refine ite2 (fun hb => ?_) (fun hb => ?_)
      · refine ⟨_, rfl, b, _, 1, _, rfl, rfl, .inr (SqT.of (sG _ _ eb)), atI_nat (j := 1) rfl, ?_⟩
        refine cpost eG (sizeBig (by rw [List.length_map]; have := List.length_filter_le (fun e : Int × Int × Int => decide (e.1 = tk)) ((t.io (room : Int)).take j); rw [List.length_take] at this; omega)) hj ?_
        refine ⟨_, rfl, same_upd sG hac, upd_same, ?_⟩
        have hb' : decide (e.1 = tk) = true := hb
        rw [htk, if_pos hb', List.map_append]; rfl
      · refine cskip hj (ys := (((t.io (room : Int)).take j).filter (fun e => decide (e.1 = tk))).map (fun e => V.int e.2.1)) ⟨_, rfl, sG, eG, ?_⟩
        have hb' : ¬ decide (e.1 = tk) = true := hb
        rw [htk, if_neg hb', List.append_nil]
    rintro ys σ L2 ⟨z, rfl, l2s, l2e, rfl⟩
    have hio : (t.io (room : Int)).filter (fun e => decide (e.1 = tk)) = [(tk, t.mark (room : Int))] := filter_row (by rw [Tr.io_keys]; exact ndA) (pt_io (room : Int) _ _ (Tr.key_mark (room : Int) _ tk (by rw [htn]; simp [Tr.key?])))
    rw [List.take_of_length_le (by omega), hio] at l2e
    refine ⟨ac, _, 0, _, rfl, rfl, .inl (SqL.of l2e), atI_nat (j := 0) rfl, ?_⟩
    have hle : (n : Int) + 1 ≤ (t.mark (room : Int)).1 := by
      obtain ⟨L, hL, hw⟩ := K57B.lev_lay hr1 hne ndA
      have := K57B.num_le hL ho hr1 hval
      omega
    have s02 := (s1.trans ls).trans l2s
    refine ⟨_, rfl, _, _, rfl, rfl, ⟨by decide, by decide, by decide⟩, (show 2 ≤ sizeLine by decide), fun l3 H3 n3 s3 e3 _ => ?_⟩
    refine ⟨_, rfl, _, rfl, _, _, rfl, rfl, .inr ⟨_, rfl, ?_⟩⟩
    rw [decide_eq_false (show ¬ (t.mark (room : Int)).1 < (n : Int) + 1 by omega)]
    refine ⟨l3, _, 0, _, rfl, rfl, .inl (SqL.of e3), atI_nat (j := 0) rfl, ?_⟩
    exact q (n + 1) H3 (num_told hr1 hp1 hp2) (s02.trans s3)
end
end K57D
namespace K57D
open PySem L2 L3 K57
theorem ord_uniq {xs ys : List Int} (h1 : xs.Pairwise (· ≤ ·)) (h2 : ys.Pairwise (· ≤ ·)) (h : xs.Perm ys) : xs = ys :=
  List.Perm.eq_of_pairwise (fun a b _ _ h1 h2 => Int.le_antisymm h1 h2) h1 h2 h
theorem ins_perm (k : Int) : ∀ t : Tr, (t.ins k).keys.Perm (t.keys ++ [k])
  | .nil => by simp [Tr.ins, Tr.keys]
  | .node l x r => by
    rw [Tr.ins]
    split
    · simp only [Tr.keys]
      have h := ins_perm k l
      rw [List.append_assoc, List.append_assoc]
      refine (h.append_right ([x] ++ r.keys)).trans ?_
      rw [List.append_assoc, List.append_assoc]
      refine List.Perm.append_left l.keys ?_
      exact List.perm_append_comm
    · simp only [Tr.keys]
      rw [List.append_assoc (l.keys ++ [x])]
      exact List.Perm.append_left _ (ins_perm k r)
theorem in01 {d : Int} (h : d = 0 ∨ d = 1) : inV (.int d) [V.int 0, V.int 1] = true := by
  rcases h with rfl | rfl <;> rfl
def spGrown : Sp := fun vs H Q _ => ∃ (v : V) (t : Tr) (k : Int) (room : Nat), vs = [v, .int k, .int (room : Int)] ∧ Rep H v t.d ∧ t.ord none none ∧ t.size < 30 ∧ k ∉ t.keys ∧ 1 ≤ room ∧ room ≤ 100 ∧ ∀ (r : V) H', Same H H' → Rep H' r (t.ins k).d → Q r H'
def spShrunk : Sp := fun vs H Q _ => ∃ (v : V) (t : Tr) (k : Int) (room : Nat), vs = [v, .int k, .int (room : Int)] ∧ Rep H v t.d ∧ t.ord none none ∧ t.size < 31 ∧ k ∈ t.keys ∧ 1 ≤ room ∧ room ≤ 100 ∧ ∀ (r : V) H', Same H H' → Rep H' r (del t k).d → Q r H'
section
variable {P : Program} {w : World} {K : PySem.W.Frag} {mg : Str → Option Value} {base : Heap}
theorem ok_grown {f : Addr} (F : Fd K mg "_law_grown" s_law_grown f) (T : Tx K mg) (C_put : Cal P w K mg base CX0 83 "put" spPut0) (C_law_number : Cal P w K mg base CX0 85 "_law_number" spNb) (C_height : Cal P w K mg base CX0 80 "height" (spHt 80)) (C_keys_of : Cal P w K mg base CX0 82 "keys_of" (spKof 82))
    (C_holds : Cal P w K mg base CX0 123 "holds" (K57B.spHolds 40)) (C_from_below : Cal P w K mg base CX0 84 "from_below" K57B.spFb) : Cal P w K mg base CX0 124 "_law_grown" spGrown := by
  refine F.cal sc_law_grown (fun _ _ _ _ _ _ us hl => match us, hl with | [_, _, _], _ => rfl) (fun vs H Q E h => ?_) (fun cdv A outer s H vs Q E hr h => ?_)
  · obtain ⟨v, t, k, room, rfl, _⟩ := h; rfl
  · obtain ⟨v, t, k, room, rfl, hv, ho, hz, hk, hr1, hr2, q⟩ := h
    have hht := Tr.ht_size t
    have hkl := Tr.keys_length t
    have hz' := Tr.ins_size k t
    have hht' := Tr.ht_size (t.ins k)
    have ho' : (t.ins k).ord none none := Tr.ins_ord k t none none ho hk (fun _ h => nomatch h) fun _ h => nomatch h
    have sp := spl_ins k t
    refine ⟨_, (bcons (sset (i := 3) sc_law_grown.nd rfl (by first | exact Or.inl rfl | exact Or.inr rfl) (qF C_put (hr.mono (by omega)) pass0 rfl (qcons (qv 0) (qcons (qv 1) qnil))))
      (bcons (sif (tcmp (rNotInn K) (qop rSub (qF C_law_number (hr.mono (by omega)) pass0 rfl (qcons (qv 3) (qcons (qv 2) qnil))) (qF C_law_number (hr.mono (by omega)) pass0 rfl (qcons (qv 0) (qcons (qv 2) qnil)))) (qtup (qcons qint (qcons qint qnil))) (by with_unfolding_all rfl)) (bone (sret qbl)) bnil)
      (bcons (sif (QW.tst (wor (tcmp (rNotInn K) (qop rSub (qF C_height (hr.mono (by omega)) pass0 rfl (qcons (qv 3) qnil)) (qF C_height (hr.mono (by omega)) pass0 rfl (qcons (qv 0) qnil))) (qtup (qcons qint (qcons qint qnil))) (by with_unfolding_all rfl)) (wor1 (tcmp (rNeq hr) (qF C_keys_of (hr.mono (by omega)) pass0 rfl (qcons (qv 3) qnil)) (qB (fSort K) rfl T.b_sorted bt_sorted (qcons (qop rAdd (qF C_keys_of (hr.mono (by omega)) pass0 rfl (qcons (qv 0) qnil)) (qlst (qcons (qv 1) qnil))) qnil)) (nomark _))))) (bone (sret qbl)) bnil)
      (bcons (sif (QW.tst (wand (tcmp rIsNot (qv 0) qnon (nomark _)) (wand1 (tnot (ttru K (qF C_holds (hr.mono (by omega)) pass0 rfl (qcons (qv 3) (qcons (qv 2) (qcons (qF C_from_below (hr.mono (by omega)) pass0 rfl (qcons (qv 0) (qcons (qv 2) qnil))) qnil)))) (fun _ => rfl)))))) (bone (sret qbl)) bnil)
      (bone (sret (qv 3))))))), ?_⟩
    refine ⟨_, rfl, _, rfl, v, k, t, rfl, hv, by omega, by omega, hk, fun r H1 s1 g1 => ?_⟩
    refine ⟨_, rfl, _, rfl, r, t.ins k, room, rfl, g1, ho', by omega, hr1, hr2, fun N' H2 a' s2 => ?_⟩
    have s02 := s1.trans s2
    refine ⟨_, rfl, _, rfl, v, t, room, rfl, hv.mono s02, ho, by omega, hr1, hr2, fun N H3 a s3 => ?_⟩
    have hN := num_spl hr1 sp a' a
    have s03 := s02.trans s3
    refine ⟨_, _, rfl, rfl, (show 2 ≤ sizeLine by decide), fun l4 H4 n4 s4 e4 _ => ?_⟩
    refine ⟨l4, _, rfl, .inr (SqT.of e4), rfl, rfl, ?_⟩
    refine ⟨_, rfl, ?_⟩
    show if (!inV (.int ((N' : Int) - (N : Int))) [V.int 0, V.int 1]) = true then _ else _
    rw [in01 (by omega)]
    refine iteF ?_
    have s04 := s03.trans s4
    have s14 := (s2.trans s3).trans s4
    have hh := spl_ht sp
    refine ⟨_, rfl, r, t.ins k, rfl, g1.mono s14, by omega, _, rfl, v, t, rfl, hv.mono s04, by omega, ?_⟩
    refine ⟨_, _, rfl, rfl, (show 2 ≤ sizeLine by decide), fun l5 H5 n5 s5 e5 _ => ?_⟩
    refine ⟨l5, _, rfl, .inr (SqT.of e5), rfl, rfl, ?_⟩
    refine ⟨_, rfl, ?_⟩
    show if (!inV (.int (((t.ins k).ht : Int) - (t.ht : Int))) [V.int 0, V.int 1]) = true then _ else _
    rw [in01 (by omega)]
    refine iteF ?_
    have s15 := s14.trans s5
    have s05 := s04.trans s5
    refine ⟨_, rfl, r, t.ins k, rfl, g1.mono s15, by omega, by omega, fun r6 H6 n6 s6 e6 => ?_⟩
    have s06 := s05.trans s6
    refine ⟨_, rfl, v, t, rfl, hv.mono s06, by omega, by omega, fun r7 H7 n7 s7 e7 => ?_⟩
    refine ⟨_, rfl, (show 1 ≤ sizeLine by decide), fun l8 H8 n8 s8 e8 _ => ?_⟩
    refine ⟨_, _, s8 _ _ e7, e8, sizeBig' (by simp; omega), fun l9 H9 n9 s9 e9 _ => ?_⟩
    have e9' : H9 l9 = some (.lst ((t.keys ++ [k]).map V.int)) := by rw [e9, List.map_append]; rfl
    refine ⟨l9, _, rfl, SqL.of e9', by simp; omega, fun q10 H10 ms n10 s10 e10 pm so => ?_⟩
    have hms : (t.ins k).keys = ms := ord_uniq ((ord_rise _ _ _ ho').imp fun h => Int.le_of_lt h) so ((ins_perm k t).trans pm.symm)
    have s610 := ((s7.trans s8).trans s9).trans s10
    refine ne_ints (s610 _ _ e6) e10 ?_
    refine ⟨_, rfl, ?_⟩
    rw [decide_eq_true hms]
    refine iteF ?_
    have s1t := s15.trans (s6.trans s610)
    have s0t := s06.trans s610
    by_cases hne : t = .nil
    · subst hne
      cases rep_nil hv
      refine ⟨_, rfl, rfl, _, rfl, ?_⟩
      refine iteF ?_
      exact ⟨_, rfl, q r H10 s0t (g1.mono s1t)⟩
    obtain ⟨tl, tk, tr, htn⟩ : ∃ l k r, t = .node l k r := by
      cases t with
      | nil => exact absurd rfl hne
      | node l k r => exact ⟨l, k, r, rfl⟩
    obtain ⟨va, wl, wr, hva, eva, _, _⟩ := rep_node (show Rep H v (Tr.node tl tk tr).d by rw [← htn]; exact hv)
    subst hva
    refine ⟨_, rfl, rfl, _, rfl, ?_⟩
    refine iteT ?_
    refine ⟨_, rfl, _, rfl, _, rfl, _, rfl, (.ref va), t, room, rfl, hv.mono s0t, hne, ho, by omega, by omega, hr1, hr2, fun y H11 n p ps s11 hp1 hp2 g11 => ?_⟩
    obtain ⟨ks, hvs, _, _⟩ := K57B.pn_val ho room n t (fun _ => by rw [htn]; exact K57B.at_self)
    rw [hp1] at hvs
    obtain ⟨k0, hval⟩ : ∃ k, K57B.Val room t n p k := by
      cases hvs with
      | cons h _ => exact ⟨_, h⟩
    have hn : n < t.ht := Classical.byContradiction fun z => by
      have h1 := K57B.ln_zero hr1 t n (by omega)
      unfold K57B.ln at h1
      rw [hp1] at h1
      cases h1
    have hval' := val_ins ho hk hval
    refine ⟨r, y, t.ins k, room, n, p, k0, rfl, (g1.mono s1t).mono s11, ho', by omega, by omega, hr1, hr2, g11, K57B.val_pp hr2 hval, ⟨by omega, by omega⟩, fun o H12 s12 ho12 => ?_⟩
    have hoT : o = .bl true := by
      rcases ho12 with ⟨_, h⟩ | ⟨_, _, h, _⟩
      · exact absurd hval' (h _ _)
      · exact h
    subst hoT
    refine ⟨_, rfl, ?_⟩
    refine iteF ?_
    exact ⟨_, rfl, q r H12 ((s0t.trans s11).trans s12) (((g1.mono s1t).mono s11).mono s12)⟩
theorem ok_shrunk {f : Addr} (F : Fd K mg "_law_shrunk" s_law_shrunk f) (T : Tx K mg) (C_taken : Cal P w K mg base CX0 164 "taken" (spDel 80)) (C_law_number : Cal P w K mg base CX0 85 "_law_number" spNb) (C_height : Cal P w K mg base CX0 80 "height" (spHt 80)) (C_keys_of : Cal P w K mg base CX0 82 "keys_of" (spKof 82)) : Cal P w K mg base CX0 165 "_law_shrunk" spShrunk := by
  refine F.cal sc_law_shrunk (fun _ _ _ _ _ _ us hl => match us, hl with | [_, _, _], _ => rfl) (fun vs H Q E h => ?_) (fun cdv A outer s H vs Q E hr h => ?_)
  · obtain ⟨v, t, k, room, rfl, _⟩ := h; rfl
  · obtain ⟨v, t, k, room, rfl, hv, ho, hz, hk, hr1, hr2, q⟩ := h
    have hht := Tr.ht_size t
    have hkl := Tr.keys_length t
    have hz' := del_ht t k
    have hht' := Tr.ht_size (del t k)
    have ho' : (del t k).ord none none := del_ord t k none none ho
    have sp := spl_del t k none none ho hk
    refine ⟨_, (bcons (sset (i := 3) sc_law_shrunk.nd rfl (by first | exact Or.inl rfl | exact Or.inr rfl) (qF C_taken (hr.mono (by omega)) pass0 rfl (qcons (qv 0) (qcons (qv 1) qnil))))
      (bcons (sif (tcmp (rNotInn K) (qop rSub (qF C_law_number (hr.mono (by omega)) pass0 rfl (qcons (qv 0) (qcons (qv 2) qnil))) (qF C_law_number (hr.mono (by omega)) pass0 rfl (qcons (qv 3) (qcons (qv 2) qnil)))) (qtup (qcons qint (qcons qint qnil))) (by with_unfolding_all rfl)) (bone (sret qbl)) bnil)
      (bcons (sif (QW.tst (wor (tcmp (rNotInn K) (qop rSub (qF C_height (hr.mono (by omega)) pass0 rfl (qcons (qv 0) qnil)) (qF C_height (hr.mono (by omega)) pass0 rfl (qcons (qv 3) qnil))) (qtup (qcons qint (qcons qint qnil))) (by with_unfolding_all rfl)) (wor1 (tcmp (rNeq hr) (qF C_keys_of (hr.mono (by omega)) pass0 rfl (qcons (qv 3) qnil)) (qcomp (sc := defScope s_law_shrunk) (NX := ["_law_tree", "_law_key", "_law_room", "_law_less"]) ["_law_one", "_law_key"] [none, some 1] rfl (iseq K (qF C_keys_of (hr.mono (by omega)) pass0 rfl (qcons (qv 0) qnil))) (fun _ _ _ => (gname (i := 0) (show (["_law_one", "_law_key"] : List Str).Nodup by decide +kernel) rfl (by first | exact Or.inl rfl | exact Or.inr rfl))) (fun _ _ _ => (csone (tcmp (rNeq hr) (qv 0) (qv 1) (nomark _)))) (fun _ _ _ => (qv 0)) rfl rfl (by decide +kernel)) (nomark _))))) (bone (sret qbl)) bnil)
      (bone (sret (qv 3)))))), ?_⟩
    refine ⟨_, rfl, _, rfl, v, k, t, none, none, rfl, hv, by omega, by omega, ho, hk, fun r H1 s1 g1 => ?_⟩
    refine ⟨_, rfl, _, rfl, v, t, room, rfl, hv.mono s1, ho, by omega, hr1, hr2, fun N H2 a s2 => ?_⟩
    have s02 := s1.trans s2
    refine ⟨_, rfl, _, rfl, r, del t k, room, rfl, g1.mono s2, ho', by omega, hr1, hr2, fun N' H3 a' s3 => ?_⟩
    have hN := num_spl hr1 sp a a'
    have s03 := s02.trans s3
    refine ⟨_, _, rfl, rfl, (show 2 ≤ sizeLine by decide), fun l4 H4 n4 s4 e4 _ => ?_⟩
    refine ⟨l4, _, rfl, .inr (SqT.of e4), rfl, rfl, ?_⟩
    refine ⟨_, rfl, ?_⟩
    show if (!inV (.int ((N : Int) - (N' : Int))) [V.int 0, V.int 1]) = true then _ else _
    rw [in01 (by omega)]
    refine iteF ?_
    have s04 := s03.trans s4
    have s14 := (s2.trans s3).trans s4
    have hh := spl_ht sp
    refine ⟨_, rfl, v, t, rfl, hv.mono s04, by omega, _, rfl, r, del t k, rfl, g1.mono s14, by omega, ?_⟩
    refine ⟨_, _, rfl, rfl, (show 2 ≤ sizeLine by decide), fun l5 H5 n5 s5 e5 _ => ?_⟩
    refine ⟨l5, _, rfl, .inr (SqT.of e5), rfl, rfl, ?_⟩
    refine ⟨_, rfl, ?_⟩
    show if (!inV (.int ((t.ht : Int) - ((del t k).ht : Int))) [V.int 0, V.int 1]) = true then _ else _
    rw [in01 (by omega)]
    refine iteF ?_
    have s15 := s14.trans s5
    have s05 := s04.trans s5
    refine ⟨_, rfl, r, del t k, rfl, g1.mono s15, by omega, by omega, fun r6 H6 n6 s6 e6 => ?_⟩
    have s06 := s05.trans s6
    refine ⟨_, rfl, v, t, rfl, hv.mono s06, by omega, by omega, fun r7 H7 n7 s7 e7 => ?_⟩
    refine ⟨r7, rfl, .inl ⟨⟨_, SqL.of e7⟩, fun ac hac => ?_⟩⟩
    refine comp_list (xs := t.keys.map V.int) (fun j ys σ H' => ∃ z, σ = [z, some (.int k)] ∧ Same H7 H' ∧ H' ac = some (.lst ys) ∧ ys = ((t.keys.take j).filter (fun y => !decide (y = k))).map V.int) ⟨none, rfl, same_new hac, upd_same, rfl⟩ (fun j ys σ H' ⟨_, _, s', _⟩ => SqL.of (s' _ _ e7)) ?_ ?_
    · rintro j ys y σ G hy hj ⟨z, rfl, sG, eG, rfl⟩
      rw [List.getElem?_map] at hy
      obtain ⟨x, hx, rfl⟩ := Option.map_eq_some_iff.mp hy
      have htk : (t.keys.take (j + 1)).filter (fun y => !decide (y = k)) = (t.keys.take j).filter (fun y => !decide (y = k)) ++ (if (!decide (x = k)) = true then [x] else []) := by
        rw [List.take_add_one, hx, List.filter_append]
        congr 1
        show List.filter _ [x] = _
        rw [List.filter_cons]; rfl
      refine ⟨_, rfl, _, rfl, _, rfl, ?_⟩
      refine ite2 (fun hb => ?_) (fun hb => ?_)
      · refine ⟨_, rfl, ?_⟩
        refine cpost eG (sizeBig (by rw [List.length_map]; have := List.length_filter_le (fun y : Int => !decide (y = k)) (t.keys.take j); rw [List.length_take] at this; omega)) hj ?_
        refine ⟨_, rfl, same_upd sG hac, upd_same, ?_⟩
        have hb' : (!decide (x = k)) = true := hb
        rw [htk, if_pos hb', List.map_append]; rfl
      · refine cskip hj (ys := ((t.keys.take j).filter (fun y => !decide (y = k))).map V.int) ⟨_, rfl, sG, eG, ?_⟩
        have hb' : ¬ (!decide (x = k)) = true := hb
        rw [htk, if_neg hb', List.append_nil]
    rintro ys σ H8 ⟨z, rfl, s8, e8, rfl⟩
    rw [List.length_map, List.take_length] at e8
    have s68 := s7.trans s8
    refine ne_ints (s68 _ _ e6) e8 ?_
    refine ⟨_, rfl, ?_⟩
    rw [decide_eq_true (del_keys t k none none ho)]
    refine iteF ?_
    exact ⟨_, rfl, q r H8 (s06.trans s68) (g1.mono (s15.trans (s6.trans s68)))⟩
end
end K57D
namespace K57D
open PySem L2 L3 K57
open K57B (KeepT tree_keep not_tup)
theorem pen_keep {H H' : Hp} {p : Addr} (hp : PenAt H p) (s : Same (rm p H) H') : KeepT H H' := fun x vs e => by
  obtain ⟨m, n, ep⟩ := hp
  have hx : x ≠ p := fun z => by rw [z, ep] at e; cases e
  exact s _ _ (by rw [rm_ne hx]; exact e)
theorem add_room {i j : Int} {n : Nat} {H : Hp} {Q : VK} (h : i + j = (n : Int)) (q : Q (.int (n : Int)) H) : rAddG (.int i) (.int j) H Q := by
  rw [← h] at q; exact q
theorem rep_refN {H : Hp} {v : V} {t : Tr} (h : Rep H v t.d) : v = .non ∨ ∃ a, v = .ref a := by
  cases t with
  | nil => exact .inl (rep_nil h)
  | node l k r =>
    obtain ⟨a, _, _, e, _⟩ := rep_node h
    exact .inr ⟨a, e⟩
theorem ins_ne (k : Int) (t : Tr) : t.ins k ≠ .nil := by
  cases t with
  | nil => exact fun z => nomatch z
  | node l x r => rw [Tr.ins]; split <;> exact fun z => nomatch z
def spLaw (K : PySem.W.Frag) : Sp := fun vs H Q _ => ∃ (a : Addr) (ns : List Int), vs = [.ref a] ∧ SqL K H a (ns.map V.int) ∧ ns.length ≤ 63 ∧ ∀ H', Q (.bl true) H'
section
variable {P : Program} {w : World} {K : PySem.W.Frag} {mg : Str → Option Value} {base : Heap}
theorem ok_law {f : Addr} {fd : FuncData} (F : Fun K "law" "law" s_law f fd) (T : Tx K mg) (C_law_pen : Cal P w K mg base CX0 1 "_law_pen" (spPen K)) (C_law_draw : Cal P w K mg base CX0 1 "_law_draw" spDraw) (C_law_grown : Cal P w K mg base CX0 124 "_law_grown" spGrown) (C_law_shrunk : Cal P w K mg base CX0 165 "_law_shrunk" spShrunk)
    (C_keys_of : Cal P w K mg base CX0 82 "keys_of" (spKof 82)) (C_tree_of : Cal P w K mg base CX0 81 "tree_of" spTof) : FnOk P w K mg base CX0 166 f fd ["_law_script"] (spLaw K) := by
  refine okQ F sc_law (fun vs H Q E h => ?_) (fun cdv A outer s H vs Q E hr h => ?_)
  · obtain ⟨a, ns, rfl, _⟩ := h; rfl
  · obtain ⟨a, ns, rfl, ha, hl, q⟩ := h
    refine ⟨_, (bcons (sset (i := 1) sc_law.nd rfl (by first | exact Or.inl rfl | exact Or.inr rfl) (qF C_law_pen (hr.mono (by omega)) pass0 rfl (qcons (qv 0) (qcons qint qnil))))
      (bcons (sset (i := 2) sc_law.nd rfl (by first | exact Or.inl rfl | exact Or.inr rfl) (qop rAdd qint (qF C_law_draw (hr.mono (by omega)) pass0 rfl (qcons (qv 1) (qcons qint qnil)))))
      (bcons (sset (i := 3) sc_law.nd rfl (by first | exact Or.inl rfl | exact Or.inr rfl) (qlst qnil))
      (bcons (sfor PassesOwn.never rfl (irange1 rfl T.b_range (qcons (qF C_law_draw (hr.mono (by omega)) pass0 rfl (qcons (qv 1) (qcons qint qnil))) qnil)) (gname (i := 4) sc_law.nd rfl (by first | exact Or.inl rfl | exact Or.inr rfl))
        (bone (sexpr (qBm K PySem.F.plainAttrs_list PySem.F.slot_list_insert PySem.F.type_list_insert mInsert (qv 3) (qcons (qF C_law_draw (hr.mono (by omega)) pass0 rfl (qcons (qv 1) (qcons (qop rAdd (qB (fLen K) rfl T.b_len bt_len (qcons (qv 3) qnil)) qint) qnil))) (qcons (qop rSub (qop rMul qint (qv 4)) qint) qnil))))))
      (bcons (sset (i := 5) sc_law.nd rfl (by first | exact Or.inl rfl | exact Or.inr rfl) qnon)
      (bcons (sset (i := 6) sc_law.nd rfl (by first | exact Or.inl rfl | exact Or.inr rfl) qbl)
      (bcons (sfor PassesOwn.never rfl (irange1 rfl T.b_range (qcons (qB (fLen K) rfl T.b_len bt_len (qcons (qv 3) qnil)) qnil)) (gname (i := 4) sc_law.nd rfl (by first | exact Or.inl rfl | exact Or.inr rfl))
        (bcons (sset (i := 5) sc_law.nd rfl (by first | exact Or.inl rfl | exact Or.inr rfl) (qF C_law_grown (hr.mono (by omega)) pass0 rfl (qcons (qv 5) (qcons (qix (xIx K) (qv 3) (qv 4) (fun _ _ => rfl)) (qcons (qv 2) qnil)))))
        (bcons (sif (QW.tst (wor (tcmp rIsO (qv 5) qbl (nomark _)) (wor1 (QW.tst (wand (tnot (ttru K (qv 6) (fun _ => rfl))) (wand1 (tcmp (rNeq hr) (qv 5) (qF C_tree_of (hr.mono (by omega)) pass0 rfl (qcons (qslice (xSl K) (qv 3) onone (osome (qop rAdd (qv 4) qint))) qnil)) (nomark _)))))))) (bone (sret qbl)) bnil)
        (bone (sif (tcmp (rEqq hr) (qF C_law_draw (hr.mono (by omega)) pass0 rfl (qcons (qv 1) (qcons qint qnil))) qint (nomark _)) (bcons (sset (i := 7) sc_law.nd rfl (by first | exact Or.inl rfl | exact Or.inr rfl) (qF C_keys_of (hr.mono (by omega)) pass0 rfl (qcons (qv 5) qnil)))
          (bcons (sset (i := 5) sc_law.nd rfl (by first | exact Or.inl rfl | exact Or.inr rfl) (qF C_law_shrunk (hr.mono (by omega)) pass0 rfl (qcons (qv 5) (qcons (qix (xIx K) (qv 7) (qF C_law_draw (hr.mono (by omega)) pass0 rfl (qcons (qv 1) (qcons (qB (fLen K) rfl T.b_len bt_len (qcons (qv 7) qnil)) qnil))) (fun _ _ => rfl)) (qcons (qv 2) qnil)))))
          (bcons (sset (i := 6) sc_law.nd rfl (by first | exact Or.inl rfl | exact Or.inr rfl) qbl)
          (bone (sif (tcmp rIsO (qv 5) qbl (nomark _)) (bone (sret qbl)) bnil))))) bnil)))))
      (bcons (swhile PassesOwn.never (tcmp rIsNot (qv 5) qnon (nomark _))
        (bcons (sset (i := 7) sc_law.nd rfl (by first | exact Or.inl rfl | exact Or.inr rfl) (qF C_keys_of (hr.mono (by omega)) pass0 rfl (qcons (qv 5) qnil)))
        (bcons (sset (i := 5) sc_law.nd rfl (by first | exact Or.inl rfl | exact Or.inr rfl) (qF C_law_shrunk (hr.mono (by omega)) pass0 rfl (qcons (qv 5) (qcons (qix (xIx K) (qv 7) (qF C_law_draw (hr.mono (by omega)) pass0 rfl (qcons (qv 1) (qcons (qB (fLen K) rfl T.b_len bt_len (qcons (qv 7) qnil)) qnil))) (fun _ _ => rfl)) (qcons (qv 2) qnil)))))
        (bone (sif (tcmp rIsO (qv 5) qbl (nomark _)) (bone (sret qbl)) bnil)))))
      (bone (sret qbl)))))))))), ?_⟩
    refine ⟨_, rfl, a, 0, ns, rfl, ha, hl, by decide, by decide, fun p H1 n1 s1 p1 => ?_⟩
    refine ⟨_, rfl, p, 4, rfl, p1, by decide, by decide, fun r2 H2 r20 r21 p2 s2 => ?_⟩
    obtain ⟨room, hroom⟩ : ∃ room : Nat, 1 + r2 = (room : Int) := ⟨(1 + r2).toNat, by rw [Int.toNat_of_nonneg (by omega)]⟩
    have hr1 : 1 ≤ room := by omega
    have hr2 : room ≤ 4 := by omega
    refine add_room hroom ?_
    clear s1 s2 p1
    refine ⟨(show 0 ≤ sizeLine by decide), fun ol H3 n3 s3 e3 _ => ?_⟩
    have hop : ol ≠ p := p2.ne n3
    refine ⟨_, rfl, p, 19, rfl, p2.mono s3, by decide, by decide, fun r4 H4 r40 r41 p4 s4 => ?_⟩
    have e4 := rm_look s4 e3 hop
    clear s3 s4 e3
    refine ⟨r4, rfl, by omega, by omega, for_range (n := r4.toNat) (fun i σ G => ∃ (z : Option V) (xs : List Int), σ = [some (.ref a), some (.ref p), some (.int (room : Int)), some (.ref ol), z, none, none, none] ∧ PenAt G p ∧ G ol = some (.lst (xs.map V.int)) ∧ xs.length = i ∧ xs.Nodup ∧ ∀ x ∈ xs, x < 5 * (i : Int) - 40)
      ⟨none, [], rfl, p4, e4, rfl, List.nodup_nil, fun x hx => nomatch hx⟩ ?_ ?_⟩
    · rintro i σ G hi ⟨z, xs, rfl, pG, eG, hxl, hxn, hxb⟩
      refine ⟨_, rfl, .inl ⟨rfl, _, SqL.of eG⟩, _, rfl, _, rfl, ol, _, rfl, .inl (SqL.of eG), ?_⟩
      refine ⟨p, _, rfl, pG, by rw [List.length_map]; omega, by rw [List.length_map]; omega, fun r5 G2 r50 r51 pG2 sG2 => ?_⟩
      rw [List.length_map] at r51
      have eG2 := rm_look sG2 eG hop
      refine ⟨_, rfl, _, _, rfl, rfl, .inl ⟨by decide, by decide⟩, _, _, rfl, rfl, ol, _, r5, _, rfl, rfl, eG2, r50, by rw [List.length_map]; omega, sizeBig (by rw [List.length_map]; omega), ?_⟩
      obtain ⟨m4, n4, hp4⟩ := id pG2
      have hnot : (5 * (0 + (i : Int)) - 40) ∉ xs := fun z => by have := hxb _ z; omega
      refine ⟨_, xs.take r5.toNat ++ (5 * (0 + (i : Int)) - 40) :: xs.drop r5.toNat, rfl, ⟨m4, n4, by rw [upd_ne hop.symm]; exact hp4⟩, ?_, ?_, nodup_insert _ hxn hnot, fun x hx => ?_⟩
      · rw [upd_same, List.map_append, List.map_cons, List.map_take, List.map_drop]
      · rw [List.length_append, List.length_cons, List.length_take, List.length_drop]; omega
      · rcases (mem_insert _).mp hx with rfl | hx
        · omega
        · have := hxb x hx; omega
    rintro σ G ⟨z4, xs, rfl, pG, eG, hxl, hxn, _⟩
    have hx18 : xs.length ≤ 18 := by omega
    clear hxl
    refine ⟨_, rfl, ol, _, rfl, .inl (SqL.of eG), ?_⟩
    refine ⟨_, rfl, by rw [List.length_map]; omega, by rw [List.length_map]; omega, for_range (n := (xs.map V.int).length) (fun i σ G => ∃ (z z7 : Option V) (v : V) (t : Tr) (tk : Bool), σ = [some (.ref a), some (.ref p), some (.int (room : Int)), some (.ref ol), z, some v, some (.bl tk), z7] ∧ PenAt G p ∧ G ol = some (.lst (xs.map V.int)) ∧ Rep G v (Tr.d t) ∧ t.ord none none ∧ t.size ≤ i ∧ (∀ y ∈ t.keys, y ∈ xs.take i) ∧ (tk = false → t = (xs.take i).foldl (fun t x => t.ins x) Tr.nil))
      ⟨_, none, .non, .nil, false, rfl, pG, eG, .non, trivial, Nat.le_refl _, (fun y hy => by simp [Tr.keys] at hy), fun _ => rfl⟩ ?_ ?_⟩
    · clear pG eG
      rintro i σ G hi ⟨z, z7, v, t, tk, rfl, pG, eG, gG, ho, hz, hsub, hsame⟩
      rw [List.length_map] at hi
      have hxi : xs[i]? = some xs[i] := List.getElem?_eq_getElem hi
      have hnew : xs[i] ∉ xs.take i := by
        have h1 : (xs.take (i + 1)).Nodup := hxn.sublist (List.take_sublist _ _)
        rw [List.take_add_one, hxi] at h1
        intro zz
        exact (List.nodup_append.mp h1).2.2 _ zz _ (by simp) rfl
      have hk : xs[i] ∉ t.keys := fun zz => hnew (hsub _ zz)
      refine ⟨_, rfl, _, rfl, _, rfl, ol, _, 0 + (i : Int), _, rfl, rfl, .inl (SqL.of eG), (by rw [Int.zero_add]; exact atI_nat (by rw [List.getElem?_map, hxi]; rfl)), ?_⟩
      refine ⟨_, rfl, v, t, xs[i], room, rfl, gG, ho, by omega, hk, hr1, by omega, fun r G1 s1 g1 => ?_⟩
      have ho' : (t.ins xs[i]).ord none none := Tr.ins_ord xs[i] t none none ho hk (fun _ h => nomatch h) fun _ h => nomatch h
      have hz' := Tr.ins_size xs[i] t
      have htk : xs.take (i + 1) = xs.take i ++ [xs[i]] := by rw [List.take_add_one, hxi]; rfl
      have hsub' : ∀ y ∈ (t.ins xs[i]).keys, y ∈ xs.take (i + 1) := fun y hy => by
        rw [htk, List.mem_append]
        rcases (Tr.mem_ins _ _ _).mp hy with e | hy
        · exact .inr (by rw [e]; exact List.mem_singleton.mpr rfl)
        · exact .inl (hsub y hy)
      have hsame' : tk = false → t.ins xs[i] = (xs.take (i + 1)).foldl (fun t x => t.ins x) Tr.nil := fun h => by
        rw [htk, List.foldl_append, ← hsame h]; rfl
      refine ⟨_, rfl, false, rfl, rep_refN g1, _, rfl, ?_⟩
      refine iteF ?_
      have pG1 := pG.mono s1
      have eG1 := s1 _ _ eG
      apply join (fun σ' G' => σ' = [some (.ref a), some (.ref p), some (.int (room : Int)), some (.ref ol), some (.int (0 + (i : Int))), some r, some (.bl tk), z7] ∧ PenAt G' p ∧ G' ol = some (.lst (xs.map V.int)) ∧ Rep G' r (t.ins xs[i]).d)
      case h2 =>
        intro hj
        refine ⟨_, rfl, _, rfl, ?_⟩
        refine ite2 (fun htf => ?pos) (fun htf => ?neg)
        case neg =>
          refine iteF ?_
          exact hj _ _ ⟨rfl, pG1, eG1, g1⟩
        case pos =>
          have htf : tk = false := by
            revert htf
            cases tk
            · intro _; rfl
            · intro h; cases h
          have ei : (0 : Int) + (i : Int) + 1 = ((i + 1 : Nat) : Int) := by omega
          refine ⟨_, rfl, _, rfl, _, rfl, _, rfl, ol, _, rfl, SqL.of eG1, fun sl G2 n2 s2 e2 _ => ?_⟩
          rw [ei, cut_hi, ← List.map_take] at e2
          refine ⟨sl, xs.take (i + 1), rfl, e2, hxn.sublist (List.take_sublist _ _), by rw [List.length_take]; omega, fun r3 G3 s3 g3 => ?_⟩
          rw [← hsame' htf] at g3
          have g13 := (g1.mono s2).mono s3
          obtain ⟨u1, hu1⟩ := (rep_refN g13).resolve_left fun zz => by
            subst zz
            cases hh : t.ins xs[i] with
            | nil => exact ins_ne _ _ hh
            | node l k r => rw [hh] at g13; obtain ⟨_, _, _, e, _⟩ := rep_node g13; cases e
          obtain ⟨u3, hu3⟩ := (rep_refN g3).resolve_left fun zz => by
            subst zz
            cases hh : t.ins xs[i] with
            | nil => exact ins_ne _ _ hh
            | node l k r => rw [hh] at g3; obtain ⟨_, _, _, e, _⟩ := rep_node g3; cases e
          subst hu1 hu3
          refine ne_same g13 g3 (dep_pure _) (by have := Tr.dep_d (t.ins xs[i]); have := Tr.ht_size (t.ins xs[i]); omega) ?_
          refine ⟨_, rfl, ?_⟩
          refine iteF ?_
          exact hj _ _ ⟨rfl, (pG1.mono s2).mono s3, s3 _ _ (s2 _ _ eG1), g13⟩
      rintro σ' G2 ⟨rfl, pG2, eG2, gG2⟩
      refine ⟨_, rfl, p, 4, rfl, pG2, by decide, by decide, fun r5 G3 r50 r51 pG3 sG3 => ?_⟩
      have eG3 := rm_look sG3 eG2 hop
      have gG3 := tree_keep (pen_keep pG2 sG3) gG2
      refine ⟨_, rfl, ?_⟩
      refine ite2 (fun _ => ?_) (fun _ => ?_)
      · have hkl := Tr.keys_length (t.ins xs[i])
        have hht := Tr.ht_size (t.ins xs[i])
        refine ⟨_, rfl, r, t.ins xs[i], rfl, gG3, by omega, by omega, fun kb G4 n4 s4 e4 => ?_⟩
        refine ⟨_, rfl, _, rfl, _, rfl, _, rfl, kb, _, rfl, .inl (SqL.of e4), p, _, rfl, pG3.mono s4, by rw [List.length_map]; omega, by rw [List.length_map]; omega, fun r6 G5 r60 r61 pG5 sG5 => ?_⟩
        rw [List.length_map] at r61
        have hkp : kb ≠ p := pG3.ne n4
        have e5 := rm_look sG5 e4 hkp
        obtain ⟨y, hy1, hy2⟩ := atI_ints r60 r61
        have gG5 := tree_keep (pen_keep (pG3.mono s4) sG5) (gG3.mono s4)
        refine ⟨kb, _, _, _, rfl, rfl, .inl (SqL.of e5), hy1, _, rfl, r, t.ins xs[i], y, room, rfl, gG5, ho', by omega, hy2, hr1, by omega, fun r7 G6 s6 g6 => ?_⟩
        have eG6 := s6 _ _ (rm_look sG5 (s4 _ _ eG3) hop)
        refine ⟨_, rfl, false, rfl, rep_refN g6, _, rfl, ?_⟩
        refine iteF ?_
        have := del_ht (t.ins xs[i]) y
        exact ⟨_, _, r7, del (t.ins xs[i]) y, true, rfl, pG5.mono s6, eG6, g6, del_ord _ _ _ _ ho', by omega, (fun z hz => hsub' z (del_sub _ _ _ hz)), fun h => nomatch h⟩
      · exact ⟨_, _, r, t.ins xs[i], tk, rfl, pG3, eG3, gG3, ho', by omega, hsub', hsame'⟩
    · clear pG eG
      rintro σ G ⟨z, z7, v, t, tk, rfl, pG, eG, gG, ho, hz, hsub, hsame⟩
      rw [List.length_map] at hz
      refine ⟨fun m σ H' => ∃ (z7 : Option V) (v : V) (t : Tr), σ = [some (.ref a), some (.ref p), some (.int (room : Int)), some (.ref ol), z, some v, some (.bl tk), z7] ∧ PenAt H' p ∧ Rep H' v (Tr.d t) ∧ t.ord none none ∧ t.size ≤ 18 ∧ m = t.size, ⟨_, z7, v, t, rfl, pG, gG, ho, by omega, rfl⟩, ?_⟩
      clear gG ho hz hsub hsame pG eG
      rintro m σ G ⟨z7, v, t, rfl, pG, gG, ho, hz, rfl⟩
      cases ht : t with
      | nil =>
        subst ht
        cases rep_nil gG
        refine ⟨_, rfl, rfl, _, rfl, ?_⟩
        refine iteF ?_
        exact q G
      | node l k r =>
        rw [← ht]
        obtain ⟨va, _, _, hva, _⟩ := rep_node (show Rep G v (Tr.node l k r).d by rw [← ht]; exact gG)
        have hpos : 1 ≤ t.size := by rw [ht, Tr.size]; omega
        subst hva
        refine ⟨_, rfl, rfl, _, rfl, ?_⟩
        refine iteT ?_
        refine ⟨fun σ' H' => ∃ m', m' < t.size ∧ ∃ (z7 : Option V) (v : V) (t : Tr), σ' = [some (.ref a), some (.ref p), some (.int (room : Int)), some (.ref ol), z, some v, some (.bl tk), z7] ∧ PenAt H' p ∧ Rep H' v (Tr.d t) ∧ t.ord none none ∧ t.size ≤ 18 ∧ m' = t.size, fun _ _ z => z, ?_⟩
        have hkl := Tr.keys_length t
        have hht := Tr.ht_size t
        refine ⟨_, rfl, .ref va, t, rfl, gG, by omega, by omega, fun kb G4 n4 s4 e4 => ?_⟩
        refine ⟨_, rfl, _, rfl, _, rfl, _, rfl, kb, _, rfl, .inl (SqL.of e4), p, _, rfl, pG.mono s4, by rw [List.length_map]; omega, by rw [List.length_map]; omega, fun r6 G5 r60 r61 pG5 sG5 => ?_⟩
        rw [List.length_map] at r61
        have hkp : kb ≠ p := pG.ne n4
        have e5 := rm_look sG5 e4 hkp
        obtain ⟨y, hy1, hy2⟩ := atI_ints r60 r61
        have gG5 := tree_keep (pen_keep (pG.mono s4) sG5) (gG.mono s4)
        refine ⟨kb, _, _, _, rfl, rfl, .inl (SqL.of e5), hy1, _, rfl, .ref va, t, y, room, rfl, gG5, ho, by omega, hy2, hr1, by omega, fun r7 G6 s6 g6 => ?_⟩
        refine ⟨_, rfl, false, rfl, rep_refN g6, _, rfl, ?_⟩
        refine iteF ?_
        have hlt : (del t y).size < t.size := by
          have h1 := congrArg List.length (del_keys t y none none ho)
          rw [Tr.keys_length] at h1
          have h2 : (t.keys.filter fun z => !decide (z = y)).length < t.keys.length := List.length_filter_lt_length_iff_exists.mpr ⟨y, hy2, by simp⟩
          omega
        exact ⟨_, hlt, _, r7, del t y, rfl, pG5.mono s6, g6, del_ord _ _ _ _ ho, by omega, rfl⟩
end
end K57D
namespace K57D
open PySem L2 L3 K57
theorem all_mk {l : PySem.W.OpenLaw} {w : World} {K : PySem.W.Frag} {h : Heap} {mg : Str → Option Value} {fa : Addr} (X : K.In h) (G : h.Ns mainGlobals mg) (hfa : mg "law" = some (.ref fa))
    {f0 : Addr} {oc0 kV0 dc0 pm0 cd0 ct0 : Value} {od0 an0 : Option Addr} {sl0 : Array (Option Value)}
    {f1 : Addr} {oc1 kV1 dc1 pm1 cd1 ct1 : Value} {od1 an1 : Option Addr} {sl1 : Array (Option Value)}
    {f2 : Addr} {oc2 kV2 dc2 pm2 cd2 ct2 : Value} {od2 an2 : Option Addr} {sl2 : Array (Option Value)}
    {f3 : Addr} {oc3 kV3 dc3 pm3 cd3 ct3 : Value} {od3 an3 : Option Addr} {sl3 : Array (Option Value)}
    {f4 : Addr} {oc4 kV4 dc4 pm4 cd4 ct4 : Value} {od4 an4 : Option Addr} {sl4 : Array (Option Value)}
    {f5 : Addr} {oc5 kV5 dc5 pm5 cd5 ct5 : Value} {od5 an5 : Option Addr} {sl5 : Array (Option Value)}
    {f6 : Addr} {oc6 kV6 dc6 pm6 cd6 ct6 : Value} {od6 an6 : Option Addr} {sl6 : Array (Option Value)}
    {f7 : Addr} {oc7 kV7 dc7 pm7 cd7 ct7 : Value} {od7 an7 : Option Addr} {sl7 : Array (Option Value)}
    {f8 : Addr} {oc8 kV8 dc8 pm8 cd8 ct8 : Value} {od8 an8 : Option Addr} {sl8 : Array (Option Value)}
    {f9 : Addr} {oc9 kV9 dc9 pm9 cd9 ct9 : Value} {od9 an9 : Option Addr} {sl9 : Array (Option Value)}
    {f10 : Addr} {oc10 kV10 dc10 pm10 cd10 ct10 : Value} {od10 an10 : Option Addr} {sl10 : Array (Option Value)}
    {f11 : Addr} {oc11 kV11 dc11 pm11 cd11 ct11 : Value} {od11 an11 : Option Addr} {sl11 : Array (Option Value)}
    {f12 : Addr} {oc12 kV12 dc12 pm12 cd12 ct12 : Value} {od12 an12 : Option Addr} {sl12 : Array (Option Value)}
    {f13 : Addr} {oc13 kV13 dc13 pm13 cd13 ct13 : Value} {od13 an13 : Option Addr} {sl13 : Array (Option Value)}
    {f14 : Addr} {oc14 kV14 dc14 pm14 cd14 ct14 : Value} {od14 an14 : Option Addr} {sl14 : Array (Option Value)}
    {f15 : Addr} {oc15 kV15 dc15 pm15 cd15 ct15 : Value} {od15 an15 : Option Addr} {sl15 : Array (Option Value)}
    {f16 : Addr} {oc16 kV16 dc16 pm16 cd16 ct16 : Value} {od16 an16 : Option Addr} {sl16 : Array (Option Value)}
    {f17 : Addr} {oc17 kV17 dc17 pm17 cd17 ct17 : Value} {od17 an17 : Option Addr} {sl17 : Array (Option Value)}
    {f18 : Addr} {oc18 kV18 dc18 pm18 cd18 ct18 : Value} {od18 an18 : Option Addr} {sl18 : Array (Option Value)}
    {f19 : Addr} {oc19 kV19 dc19 pm19 cd19 ct19 : Value} {od19 an19 : Option Addr} {sl19 : Array (Option Value)}
    {f20 : Addr} {oc20 kV20 dc20 pm20 cd20 ct20 : Value} {od20 an20 : Option Addr} {sl20 : Array (Option Value)}
    {f21 : Addr} {oc21 kV21 dc21 pm21 cd21 ct21 : Value} {od21 an21 : Option Addr} {sl21 : Array (Option Value)}
    {f22 : Addr} {oc22 kV22 dc22 pm22 cd22 ct22 : Value} {od22 an22 : Option Addr} {sl22 : Array (Option Value)}
    {f23 : Addr} {oc23 kV23 dc23 pm23 cd23 ct23 : Value} {od23 an23 : Option Addr} {sl23 : Array (Option Value)}
    {f24 : Addr} {oc24 kV24 dc24 pm24 cd24 ct24 : Value} {od24 an24 : Option Addr} {sl24 : Array (Option Value)}
    {f25 : Addr} {oc25 kV25 dc25 pm25 cd25 ct25 : Value} {od25 an25 : Option Addr} {sl25 : Array (Option Value)}
    {f26 : Addr} {oc26 kV26 dc26 pm26 cd26 ct26 : Value} {od26 an26 : Option Addr} {sl26 : Array (Option Value)}
    {f27 : Addr} {oc27 kV27 dc27 pm27 cd27 ct27 : Value} {od27 an27 : Option Addr} {sl27 : Array (Option Value)}
    {f28 : Addr} {oc28 kV28 dc28 pm28 cd28 ct28 : Value} {od28 an28 : Option Addr} {sl28 : Array (Option Value)}
    {f29 : Addr} {oc29 kV29 dc29 pm29 cd29 ct29 : Value} {od29 an29 : Option Addr} {sl29 : Array (Option Value)}
    (a0 : PySem.W.nsIn K mainGlobals "keys_of" = some (some (.ref f0))) (l0 : K.lookup f0 = some ⟨oc0, od0, .func (PySem.W.fnOf "keys_of" "keys_of" (defArgs s_keys_of) (defBody s_keys_of) (defScope s_keys_of) .none kV0 dc0 pm0 an0 cd0 ct0), sl0⟩) (c0 : PySem.W.codeIn K cd0 "keys_of" = true) (k0 : PySem.W.keepIn K (.ref f0) = true)
    (a1 : PySem.W.nsIn K mainGlobals "with_kids" = some (some (.ref f1))) (l1 : K.lookup f1 = some ⟨oc1, od1, .func (PySem.W.fnOf "with_kids" "with_kids" (defArgs s_with_kids) (defBody s_with_kids) (defScope s_with_kids) .none kV1 dc1 pm1 an1 cd1 ct1), sl1⟩) (c1 : PySem.W.codeIn K cd1 "with_kids" = true) (k1 : PySem.W.keepIn K (.ref f1) = true)
    (a2 : PySem.W.nsIn K mainGlobals "side_towards" = some (some (.ref f2))) (l2 : K.lookup f2 = some ⟨oc2, od2, .func (PySem.W.fnOf "side_towards" "side_towards" (defArgs s_side_towards) (defBody s_side_towards) (defScope s_side_towards) .none kV2 dc2 pm2 an2 cd2 ct2), sl2⟩) (c2 : PySem.W.codeIn K cd2 "side_towards" = true) (k2 : PySem.W.keepIn K (.ref f2) = true)
    (a3 : PySem.W.nsIn K mainGlobals "knot_at" = some (some (.ref f3))) (l3 : K.lookup f3 = some ⟨oc3, od3, .func (PySem.W.fnOf "knot_at" "knot_at" (defArgs s_knot_at) (defBody s_knot_at) (defScope s_knot_at) .none kV3 dc3 pm3 an3 cd3 ct3), sl3⟩) (c3 : PySem.W.codeIn K cd3 "knot_at" = true) (k3 : PySem.W.keepIn K (.ref f3) = true)
    (a4 : PySem.W.nsIn K mainGlobals "way_to" = some (some (.ref f4))) (l4 : K.lookup f4 = some ⟨oc4, od4, .func (PySem.W.fnOf "way_to" "way_to" (defArgs s_way_to) (defBody s_way_to) (defScope s_way_to) .none kV4 dc4 pm4 an4 cd4 ct4), sl4⟩) (c4 : PySem.W.codeIn K cd4 "way_to" = true) (k4 : PySem.W.keepIn K (.ref f4) = true)
    (a5 : PySem.W.nsIn K mainGlobals "height" = some (some (.ref f5))) (l5 : K.lookup f5 = some ⟨oc5, od5, .func (PySem.W.fnOf "height" "height" (defArgs s_height) (defBody s_height) (defScope s_height) .none kV5 dc5 pm5 an5 cd5 ct5), sl5⟩) (c5 : PySem.W.codeIn K cd5 "height" = true) (k5 : PySem.W.keepIn K (.ref f5) = true)
    (a6 : PySem.W.nsIn K mainGlobals "with_key" = some (some (.ref f6))) (l6 : K.lookup f6 = some ⟨oc6, od6, .func (PySem.W.fnOf "with_key" "with_key" (defArgs s_with_key) (defBody s_with_key) (defScope s_with_key) .none kV6 dc6 pm6 an6 cd6 ct6), sl6⟩) (c6 : PySem.W.codeIn K cd6 "with_key" = true) (k6 : PySem.W.keepIn K (.ref f6) = true)
    (a7 : PySem.W.nsIn K mainGlobals "put" = some (some (.ref f7))) (l7 : K.lookup f7 = some ⟨oc7, od7, .func (PySem.W.fnOf "put" "put" (defArgs s_put) (defBody s_put) (defScope s_put) .none kV7 dc7 pm7 an7 cd7 ct7), sl7⟩) (c7 : PySem.W.codeIn K cd7 "put" = true) (k7 : PySem.W.keepIn K (.ref f7) = true)
    (a8 : PySem.W.nsIn K mainGlobals "tree_of" = some (some (.ref f8))) (l8 : K.lookup f8 = some ⟨oc8, od8, .func (PySem.W.fnOf "tree_of" "tree_of" (defArgs s_tree_of) (defBody s_tree_of) (defScope s_tree_of) .none kV8 dc8 pm8 an8 cd8 ct8), sl8⟩) (c8 : PySem.W.codeIn K cd8 "tree_of" = true) (k8 : PySem.W.keepIn K (.ref f8) = true)
    (a9 : PySem.W.nsIn K mainGlobals "without_key" = some (some (.ref f9))) (l9 : K.lookup f9 = some ⟨oc9, od9, .func (PySem.W.fnOf "without_key" "without_key" (defArgs s_without_key) (defBody s_without_key) (defScope s_without_key) .none kV9 dc9 pm9 an9 cd9 ct9), sl9⟩) (c9 : PySem.W.codeIn K cd9 "without_key" = true) (k9 : PySem.W.keepIn K (.ref f9) = true)
    (a10 : PySem.W.nsIn K mainGlobals "taken" = some (some (.ref f10))) (l10 : K.lookup f10 = some ⟨oc10, od10, .func (PySem.W.fnOf "taken" "taken" (defArgs s_taken) (defBody s_taken) (defScope s_taken) .none kV10 dc10 pm10 an10 cd10 ct10), sl10⟩) (c10 : PySem.W.codeIn K cd10 "taken" = true) (k10 : PySem.W.keepIn K (.ref f10) = true)
    (a11 : PySem.W.nsIn K mainGlobals "below" = some (some (.ref f11))) (l11 : K.lookup f11 = some ⟨oc11, od11, .func (PySem.W.fnOf "below" "below" (defArgs s_below) (defBody s_below) (defScope s_below) .none kV11 dc11 pm11 an11 cd11 ct11), sl11⟩) (c11 : PySem.W.codeIn K cd11 "below" = true) (k11 : PySem.W.keepIn K (.ref f11) = true)
    (a12 : PySem.W.nsIn K mainGlobals "number_of" = some (some (.ref f12))) (l12 : K.lookup f12 = some ⟨oc12, od12, .func (PySem.W.fnOf "number_of" "number_of" (defArgs s_number_of) (defBody s_number_of) (defScope s_number_of) .none kV12 dc12 pm12 an12 cd12 ct12), sl12⟩) (c12 : PySem.W.codeIn K cd12 "number_of" = true) (k12 : PySem.W.keepIn K (.ref f12) = true)
    (a13 : PySem.W.nsIn K mainGlobals "stand_apart" = some (some (.ref f13))) (l13 : K.lookup f13 = some ⟨oc13, od13, .func (PySem.W.fnOf "stand_apart" "stand_apart" (defArgs s_stand_apart) (defBody s_stand_apart) (defScope s_stand_apart) .none kV13 dc13 pm13 an13 cd13 ct13), sl13⟩) (c13 : PySem.W.codeIn K cd13 "stand_apart" = true) (k13 : PySem.W.keepIn K (.ref f13) = true)
    (a14 : PySem.W.nsIn K mainGlobals "number_held" = some (some (.ref f14))) (l14 : K.lookup f14 = some ⟨oc14, od14, .func (PySem.W.fnOf "number_held" "number_held" (defArgs s_number_held) (defBody s_number_held) (defScope s_number_held) .none kV14 dc14 pm14 an14 cd14 ct14), sl14⟩) (c14 : PySem.W.codeIn K cd14 "number_held" = true) (k14 : PySem.W.keepIn K (.ref f14) = true)
    (a15 : PySem.W.nsIn K mainGlobals "holds" = some (some (.ref f15))) (l15 : K.lookup f15 = some ⟨oc15, od15, .func (PySem.W.fnOf "holds" "holds" (defArgs s_holds) (defBody s_holds) (defScope s_holds) .none kV15 dc15 pm15 an15 cd15 ct15), sl15⟩) (c15 : PySem.W.codeIn K cd15 "holds" = true) (k15 : PySem.W.keepIn K (.ref f15) = true)
    (a16 : PySem.W.nsIn K mainGlobals "gathered" = some (some (.ref f16))) (l16 : K.lookup f16 = some ⟨oc16, od16, .func (PySem.W.fnOf "gathered" "gathered" (defArgs s_gathered) (defBody s_gathered) (defScope s_gathered) .none kV16 dc16 pm16 an16 cd16 ct16), sl16⟩) (c16 : PySem.W.codeIn K cd16 "gathered" = true) (k16 : PySem.W.keepIn K (.ref f16) = true)
    (a17 : PySem.W.nsIn K mainGlobals "knot_papers" = some (some (.ref f17))) (l17 : K.lookup f17 = some ⟨oc17, od17, .func (PySem.W.fnOf "knot_papers" "knot_papers" (defArgs s_knot_papers) (defBody s_knot_papers) (defScope s_knot_papers) .none kV17 dc17 pm17 an17 cd17 ct17), sl17⟩) (c17 : PySem.W.codeIn K cd17 "knot_papers" = true) (k17 : PySem.W.keepIn K (.ref f17) = true)
    (a18 : PySem.W.nsIn K mainGlobals "part_made" = some (some (.ref f18))) (l18 : K.lookup f18 = some ⟨oc18, od18, .func (PySem.W.fnOf "part_made" "part_made" (defArgs s_part_made) (defBody s_part_made) (defScope s_part_made) .none kV18 dc18 pm18 an18 cd18 ct18), sl18⟩) (c18 : PySem.W.codeIn K cd18 "part_made" = true) (k18 : PySem.W.keepIn K (.ref f18) = true)
    (a19 : PySem.W.nsIn K mainGlobals "part_papers" = some (some (.ref f19))) (l19 : K.lookup f19 = some ⟨oc19, od19, .func (PySem.W.fnOf "part_papers" "part_papers" (defArgs s_part_papers) (defBody s_part_papers) (defScope s_part_papers) .none kV19 dc19 pm19 an19 cd19 ct19), sl19⟩) (c19 : PySem.W.codeIn K cd19 "part_papers" = true) (k19 : PySem.W.keepIn K (.ref f19) = true)
    (a20 : PySem.W.nsIn K mainGlobals "from_below" = some (some (.ref f20))) (l20 : K.lookup f20 = some ⟨oc20, od20, .func (PySem.W.fnOf "from_below" "from_below" (defArgs s_from_below) (defBody s_from_below) (defScope s_from_below) .none kV20 dc20 pm20 an20 cd20 ct20), sl20⟩) (c20 : PySem.W.codeIn K cd20 "from_below" = true) (k20 : PySem.W.keepIn K (.ref f20) = true)
    (a21 : PySem.W.nsIn K mainGlobals "mark_from" = some (some (.ref f21))) (l21 : K.lookup f21 = some ⟨oc21, od21, .func (PySem.W.fnOf "mark_from" "mark_from" (defArgs s_mark_from) (defBody s_mark_from) (defScope s_mark_from) .none kV21 dc21 pm21 an21 cd21 ct21), sl21⟩) (c21 : PySem.W.codeIn K cd21 "mark_from" = true) (k21 : PySem.W.keepIn K (.ref f21) = true)
    (a22 : PySem.W.nsIn K mainGlobals "marks_by_key" = some (some (.ref f22))) (l22 : K.lookup f22 = some ⟨oc22, od22, .func (PySem.W.fnOf "marks_by_key" "marks_by_key" (defArgs s_marks_by_key) (defBody s_marks_by_key) (defScope s_marks_by_key) .none kV22 dc22 pm22 an22 cd22 ct22), sl22⟩) (c22 : PySem.W.codeIn K cd22 "marks_by_key" = true) (k22 : PySem.W.keepIn K (.ref f22) = true)
    (a23 : PySem.W.nsIn K mainGlobals "marks" = some (some (.ref f23))) (l23 : K.lookup f23 = some ⟨oc23, od23, .func (PySem.W.fnOf "marks" "marks" (defArgs s_marks) (defBody s_marks) (defScope s_marks) .none kV23 dc23 pm23 an23 cd23 ct23), sl23⟩) (c23 : PySem.W.codeIn K cd23 "marks" = true) (k23 : PySem.W.keepIn K (.ref f23) = true)
    (a24 : PySem.W.nsIn K mainGlobals "_law_pen" = some (some (.ref f24))) (l24 : K.lookup f24 = some ⟨oc24, od24, .func (PySem.W.fnOf "_law_pen" "_law_pen" (defArgs s_law_pen) (defBody s_law_pen) (defScope s_law_pen) .none kV24 dc24 pm24 an24 cd24 ct24), sl24⟩) (c24 : PySem.W.codeIn K cd24 "_law_pen" = true) (k24 : PySem.W.keepIn K (.ref f24) = true)
    (a25 : PySem.W.nsIn K mainGlobals "_law_draw" = some (some (.ref f25))) (l25 : K.lookup f25 = some ⟨oc25, od25, .func (PySem.W.fnOf "_law_draw" "_law_draw" (defArgs s_law_draw) (defBody s_law_draw) (defScope s_law_draw) .none kV25 dc25 pm25 an25 cd25 ct25), sl25⟩) (c25 : PySem.W.codeIn K cd25 "_law_draw" = true) (k25 : PySem.W.keepIn K (.ref f25) = true)
    (a26 : PySem.W.nsIn K mainGlobals "_law_number" = some (some (.ref f26))) (l26 : K.lookup f26 = some ⟨oc26, od26, .func (PySem.W.fnOf "_law_number" "_law_number" (defArgs s_law_number) (defBody s_law_number) (defScope s_law_number) .none kV26 dc26 pm26 an26 cd26 ct26), sl26⟩) (c26 : PySem.W.codeIn K cd26 "_law_number" = true) (k26 : PySem.W.keepIn K (.ref f26) = true)
    (a27 : PySem.W.nsIn K mainGlobals "_law_grown" = some (some (.ref f27))) (l27 : K.lookup f27 = some ⟨oc27, od27, .func (PySem.W.fnOf "_law_grown" "_law_grown" (defArgs s_law_grown) (defBody s_law_grown) (defScope s_law_grown) .none kV27 dc27 pm27 an27 cd27 ct27), sl27⟩) (c27 : PySem.W.codeIn K cd27 "_law_grown" = true) (k27 : PySem.W.keepIn K (.ref f27) = true)
    (a28 : PySem.W.nsIn K mainGlobals "_law_shrunk" = some (some (.ref f28))) (l28 : K.lookup f28 = some ⟨oc28, od28, .func (PySem.W.fnOf "_law_shrunk" "_law_shrunk" (defArgs s_law_shrunk) (defBody s_law_shrunk) (defScope s_law_shrunk) .none kV28 dc28 pm28 an28 cd28 ct28), sl28⟩) (c28 : PySem.W.codeIn K cd28 "_law_shrunk" = true) (k28 : PySem.W.keepIn K (.ref f28) = true)
    (a29 : PySem.W.nsIn K mainGlobals "law" = some (some (.ref f29))) (l29 : K.lookup f29 = some ⟨oc29, od29, .func (PySem.W.fnOf "law" "law" (defArgs s_law) (defBody s_law) (defScope s_law) .none kV29 dc29 pm29 an29 cd29 ct29), sl29⟩) (c29 : PySem.W.codeIn K cd29 "law" = true) (k29 : PySem.W.keepIn K (.ref f29) = true)
    (z_int : PySem.W.nsIn K mainGlobals "int" = some none) (z_len : PySem.W.nsIn K mainGlobals "len" = some none) (z_max : PySem.W.nsIn K mainGlobals "max" = some none) (z_range : PySem.W.nsIn K mainGlobals "range" = some none) (z_set : PySem.W.nsIn K mainGlobals "set" = some none) (z_sorted : PySem.W.nsIn K mainGlobals "sorted" = some none) (z_sum : PySem.W.nsIn K mainGlobals "sum" = some none) (z_tuple : PySem.W.nsIn K mainGlobals "tuple" = some none) {tk_MOST_KEYS : Tok} (z_MOST_KEYS : PySem.W.nsIn K mainGlobals "MOST_KEYS" = some (some (.int 60 tk_MOST_KEYS))) :
    ∃ fd : FuncData, (∀ (s : Shared) (v : Value), BindsTo s fd ⟨[v], []⟩ [("_law_script", v)]) ∧ ∀ base : Heap, K.In base → base.Ns mainGlobals mg → FnOk l.prog w K mg base CX0 166 fa fd ["_law_script"] (spLaw K) := by
  have e := hfa.symm.trans (PySem.W.mg_of X G a29)
  cases e
  have F_keys_of : Fd K mg "keys_of" s_keys_of f0 := fd_mk X G a0 l0 c0 k0
  have F_with_kids : Fd K mg "with_kids" s_with_kids f1 := fd_mk X G a1 l1 c1 k1
  have F_side_towards : Fd K mg "side_towards" s_side_towards f2 := fd_mk X G a2 l2 c2 k2
  have F_knot_at : Fd K mg "knot_at" s_knot_at f3 := fd_mk X G a3 l3 c3 k3
  have F_way_to : Fd K mg "way_to" s_way_to f4 := fd_mk X G a4 l4 c4 k4
  have F_height : Fd K mg "height" s_height f5 := fd_mk X G a5 l5 c5 k5
  have F_with_key : Fd K mg "with_key" s_with_key f6 := fd_mk X G a6 l6 c6 k6
  have F_put : Fd K mg "put" s_put f7 := fd_mk X G a7 l7 c7 k7
  have F_tree_of : Fd K mg "tree_of" s_tree_of f8 := fd_mk X G a8 l8 c8 k8
  have F_without_key : Fd K mg "without_key" s_without_key f9 := fd_mk X G a9 l9 c9 k9
  have F_taken : Fd K mg "taken" s_taken f10 := fd_mk X G a10 l10 c10 k10
  have F_below : Fd K mg "below" s_below f11 := fd_mk X G a11 l11 c11 k11
  have F_number_of : Fd K mg "number_of" s_number_of f12 := fd_mk X G a12 l12 c12 k12
  have F_stand_apart : Fd K mg "stand_apart" s_stand_apart f13 := fd_mk X G a13 l13 c13 k13
  have F_number_held : Fd K mg "number_held" s_number_held f14 := fd_mk X G a14 l14 c14 k14
  have F_holds : Fd K mg "holds" s_holds f15 := fd_mk X G a15 l15 c15 k15
  have F_gathered : Fd K mg "gathered" s_gathered f16 := fd_mk X G a16 l16 c16 k16
  have F_knot_papers : Fd K mg "knot_papers" s_knot_papers f17 := fd_mk X G a17 l17 c17 k17
  have F_part_made : Fd K mg "part_made" s_part_made f18 := fd_mk X G a18 l18 c18 k18
  have F_part_papers : Fd K mg "part_papers" s_part_papers f19 := fd_mk X G a19 l19 c19 k19
  have F_from_below : Fd K mg "from_below" s_from_below f20 := fd_mk X G a20 l20 c20 k20
  have F_mark_from : Fd K mg "mark_from" s_mark_from f21 := fd_mk X G a21 l21 c21 k21
  have F_marks_by_key : Fd K mg "marks_by_key" s_marks_by_key f22 := fd_mk X G a22 l22 c22 k22
  have F_marks : Fd K mg "marks" s_marks f23 := fd_mk X G a23 l23 c23 k23
  have F_law_pen : Fd K mg "_law_pen" s_law_pen f24 := fd_mk X G a24 l24 c24 k24
  have F_law_draw : Fd K mg "_law_draw" s_law_draw f25 := fd_mk X G a25 l25 c25 k25
  have F_law_number : Fd K mg "_law_number" s_law_number f26 := fd_mk X G a26 l26 c26 k26
  have F_law_grown : Fd K mg "_law_grown" s_law_grown f27 := fd_mk X G a27 l27 c27 k27
  have F_law_shrunk : Fd K mg "_law_shrunk" s_law_shrunk f28 := fd_mk X G a28 l28 c28 k28
  have T : Tx K mg := ⟨PySem.W.mg_none_of X G z_int, PySem.W.mg_none_of X G z_len, PySem.W.mg_none_of X G z_max, PySem.W.mg_none_of X G z_range, PySem.W.mg_none_of X G z_set, PySem.W.mg_none_of X G z_sorted, PySem.W.mg_none_of X G z_sum, PySem.W.mg_none_of X G z_tuple, ⟨_, PySem.W.mg_of X G z_MOST_KEYS⟩⟩
  refine ⟨PySem.W.fnOf "law" "law" (defArgs s_law) (defBody s_law) (defScope s_law) .none kV29 dc29 pm29 an29 cd29 ct29, fun s v => .of_eq rfl, fun base _ _ => ?_⟩
  have C_draw : Cal l.prog w K mg base CX0 1 "_law_draw" spDraw := ok_draw F_law_draw T
  have C_wk : Cal l.prog w K mg base CX0 80 "with_kids" (K57.spWk 80) := K57.ok_wk F_with_kids T 80
  have C_wk2 : Cal l.prog w K mg base CX0 80 "with_kids" (K57B.spWk 80) := K57B.ok_wk F_with_kids T 80
  have C_kof : Cal l.prog w K mg base CX0 80 "keys_of" (spKof 80) := ok_kof F_keys_of T 80
  have C_kof2 : Cal l.prog w K mg base CX0 82 "keys_of" (spKof 82) := ok_kof F_keys_of T 82
  have C_mk := ok_marks F_marks T (ok_byKey F_marks_by_key T C_wk (ok_from F_mark_from T)) C_kof2
  have C_ga := K57B.ok_gather (P := l.prog) (w := w) (base := base) F_gathered T
  have C_pp := K57B.ok_pp F_part_papers T C_wk2 C_ga (K57B.ok_pmade F_part_made T)
  have C_fb := K57B.ok_fb F_from_below T (K57B.ok_kp F_knot_papers T C_wk2 C_ga) C_pp
  have C_side := K57B.ok_side (P := l.prog) (w := w) (base := base) F_side_towards T
  have C_kat := K57B.ok_kat F_knot_at T C_side
  have C_below := K57B.ok_below F_below T C_kat C_kof
  have C_stand := K57B.ok_stand F_stand_apart T C_below (K57B.ok_way F_way_to T C_side)
  have C_holds := K57B.ok_holds F_holds T (K57B.ok_held F_number_held T C_kat C_stand 40)
  have C_wkey : Cal l.prog w K mg base CX0 80 "with_key" (spPut 80) := ok_wkey F_with_key T 80
  have C_put := ok_put F_put T C_kat C_kof2 C_wkey
  have C_ht : Cal l.prog w K mg base CX0 80 "height" (spHt 80) := ok_ht F_height T 80
  have C_nb := ok_nb F_law_number T (K57B.ok_nof F_number_of T) C_fb C_mk
  have C_tk := ok_taken F_taken T C_kat (ok_wo F_without_key T C_kof2 80 (by decide))
  exact ok_law (fun_mk l29 c29 k29) T (ok_pen F_law_pen T) C_draw (ok_grown F_law_grown T C_put C_nb C_ht C_kof2 C_holds C_fb) (ok_shrunk F_law_shrunk T C_tk C_nb C_ht C_kof2) C_kof2 (ok_tof F_tree_of T C_wkey)
theorem walk {l : PySem.W.OpenLaw} {q : Program} {loose : List Str} {XP : (Str → Option Value) → Heap → Prop} {YP : World → Heap → Prop} {d : DefRec} {K : Params → PySem.W.Frag} (hn : l.most = some 63) (hdf : d.params.defaults = [])
    (hY : ∀ (w : World) (h : Heap), YP w h → (K w.params).In h)
    (F : ∀ (w : World) (mg : Str → Option Value) (fa : Addr) (h : Heap), (K w.params).In h → h.Ns mainGlobals mg → mg d.name = some (.ref fa) →
      ∃ fd : FuncData, (∀ (s : Shared) (u : Value), BindsTo s fd ⟨[u], []⟩ [("_law_script", u)]) ∧ ∀ base : Heap, (K w.params).In base → base.Ns mainGlobals mg → FnOk l.prog w (K w.params) mg base CX0 166 fa fd ["_law_script"] (spLaw (K w.params))) :
    PySem.W.WalkO q loose XP YP l.row.toRowW d [] (fun f vs => PySem.call f vs) :=
  L2.walk_of (n := 63) (k := 166) (x := "_law_script") (CX := fun _ => CX0) (sp := fun w => spLaw (K w.params)) hn (by decide) hdf ⟨rfl, by decide, by decide⟩ hY F (fun _ _ a ns hl _ hS => ⟨a, ns, rfl, hS, hl, fun _ => rfl⟩) fun _ _ _ _ _ z => z
end K57D
open PySem PySem.W PyProof.Rows
set_option maxRecDepth 100000 in
set_option maxHeartbeats 0 in
theorem PySem.Challenge.cw_leafpages_k57_whole_a_tree_grown_holds : PySem.Challenge.rw_leafpages_k57_whole_a_tree_grown.Holds := by
  w_on; o_law; k_head; (case hw => w_witness2)
  k_fill
  refine K57D.walk (l := PySem.Challenge.rw_leafpages_k57_whole_a_tree_grown) rfl rfl (fun w h Y => PySem.W.kIn_of Y) ?F
  case F =>
    intro w mg fa h KX G hmg
    refine' K57D.all_mk KX G hmg ?a0 ?l0 ?c0 ?k0 ?a1 ?l1 ?c1 ?k1 ?a2 ?l2 ?c2 ?k2 ?a3 ?l3 ?c3 ?k3 ?a4 ?l4 ?c4 ?k4 ?a5 ?l5 ?c5 ?k5 ?a6 ?l6 ?c6 ?k6 ?a7 ?l7 ?c7 ?k7 ?a8 ?l8 ?c8 ?k8 ?a9 ?l9 ?c9 ?k9 ?a10 ?l10 ?c10 ?k10 ?a11 ?l11 ?c11 ?k11 ?a12 ?l12 ?c12 ?k12 ?a13 ?l13 ?c13 ?k13 ?a14 ?l14 ?c14 ?k14 ?a15 ?l15 ?c15 ?k15 ?a16 ?l16 ?c16 ?k16 ?a17 ?l17 ?c17 ?k17 ?a18 ?l18 ?c18 ?k18 ?a19 ?l19 ?c19 ?k19 ?a20 ?l20 ?c20 ?k20 ?a21 ?l21 ?c21 ?k21 ?a22 ?l22 ?c22 ?k22 ?a23 ?l23 ?c23 ?k23 ?a24 ?l24 ?c24 ?k24 ?a25 ?l25 ?c25 ?k25 ?a26 ?l26 ?c26 ?k26 ?a27 ?l27 ?c27 ?k27 ?a28 ?l28 ?c28 ?k28 ?a29 ?l29 ?c29 ?k29 ?z_int ?z_len ?z_max ?z_range ?z_set ?z_sorted ?z_sum ?z_tuple ?z_MOST_KEYS
    (case a0 => k_is)
    (case l0 => k_is)
    (case c0 => k_is)
    (case k0 => k_is)
    (case a1 => k_is)
    (case l1 => k_is)
    (case c1 => k_is)
    (case k1 => k_is)
    (case a2 => k_is)
    (case l2 => k_is)
    (case c2 => k_is)
    (case k2 => k_is)
    (case a3 => k_is)
    (case l3 => k_is)
    (case c3 => k_is)
    (case k3 => k_is)
    (case a4 => k_is)
    (case l4 => k_is)
    (case c4 => k_is)
    (case k4 => k_is)
    (case a5 => k_is)
    (case l5 => k_is)
    (case c5 => k_is)
    (case k5 => k_is)
    (case a6 => k_is)
    (case l6 => k_is)
    (case c6 => k_is)
    (case k6 => k_is)
    (case a7 => k_is)
    (case l7 => k_is)
    (case c7 => k_is)
    (case k7 => k_is)
    (case a8 => k_is)
    (case l8 => k_is)
    (case c8 => k_is)
    (case k8 => k_is)
    (case a9 => k_is)
    (case l9 => k_is)
    (case c9 => k_is)
    (case k9 => k_is)
    (case a10 => k_is)
    (case l10 => k_is)
    (case c10 => k_is)
    (case k10 => k_is)
    (case a11 => k_is)
    (case l11 => k_is)
    (case c11 => k_is)
    (case k11 => k_is)
    (case a12 => k_is)
    (case l12 => k_is)
    (case c12 => k_is)
    (case k12 => k_is)
    (case a13 => k_is)
    (case l13 => k_is)
    (case c13 => k_is)
    (case k13 => k_is)
    (case a14 => k_is)
    (case l14 => k_is)
    (case c14 => k_is)
    (case k14 => k_is)
    (case a15 => k_is)
    (case l15 => k_is)
    (case c15 => k_is)
    (case k15 => k_is)
    (case a16 => k_is)
    (case l16 => k_is)
    (case c16 => k_is)
    (case k16 => k_is)
    (case a17 => k_is)
    (case l17 => k_is)
    (case c17 => k_is)
    (case k17 => k_is)
    (case a18 => k_is)
    (case l18 => k_is)
    (case c18 => k_is)
    (case k18 => k_is)
    (case a19 => k_is)
    (case l19 => k_is)
    (case c19 => k_is)
    (case k19 => k_is)
    (case a20 => k_is)
    (case l20 => k_is)
    (case c20 => k_is)
    (case k20 => k_is)
    (case a21 => k_is)
    (case l21 => k_is)
    (case c21 => k_is)
    (case k21 => k_is)
    (case a22 => k_is)
    (case l22 => k_is)
    (case c22 => k_is)
    (case k22 => k_is)
    (case a23 => k_is)
    (case l23 => k_is)
    (case c23 => k_is)
    (case k23 => k_is)
    (case a24 => k_is)
    (case l24 => k_is)
    (case c24 => k_is)
    (case k24 => k_is)
    (case a25 => k_is)
    (case l25 => k_is)
    (case c25 => k_is)
    (case k25 => k_is)
    (case a26 => k_is)
    (case l26 => k_is)
    (case c26 => k_is)
    (case k26 => k_is)
    (case a27 => k_is)
    (case l27 => k_is)
    (case c27 => k_is)
    (case k27 => k_is)
    (case a28 => k_is)
    (case l28 => k_is)
    (case c28 => k_is)
    (case k28 => k_is)
    (case a29 => k_is)
    (case l29 => k_is)
    (case c29 => k_is)
    (case k29 => k_is)
    (case z_int => k_is)
    (case z_len => k_is)
    (case z_max => k_is)
    (case z_range => k_is)
    (case z_set => k_is)
    (case z_sorted => k_is)
    (case z_sum => k_is)
    (case z_tuple => k_is)
    (case z_MOST_KEYS => k_is)
