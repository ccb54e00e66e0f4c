import PyProof.Rows.All
import Wide.All
import OpenK.AllK
import Wide.FinOn
import Lean
import PyProof.EqAt
import PyProof.EqKinds
import PyProof.TupleCall
import PyProof.NeKinds
import PyProof.Rows.SumAny
import PyProof.Rows.SortWalk
import PyProof.WalksEnum
import PyProof.AttrMissHeap
import KE.KDictOf
import PyProof.DictWalks
import KE.KRevIter
import PyProof.Rows.SeqMore2
import Wide.Seal
import KE.KDictList
import PyProof.ZipIter
import PyProof.TupleIter
import PyProof.ListMulRoad
import PyProof.TupleOps
import PyProof.FactsAll.tuple
import PyProof.Rows.CallKwBuiltin
import PyProof.WalkInts
import PyProof.DictValues
import KE.KSortTup
import KE.KEqDict
import OpenK.KCell
import KE.KNest
import PyProof.Rows.SetFrom
import PyProof.SetRoads
import PySem.Challenge.RW_leafpages_k02_trees_made
set_option Elab.async false
set_option linter.all false
set_option maxRecDepth 100000
set_option maxHeartbeats 4000000
namespace L2
open PySem PySem.Spec PyProof.Rows
abbrev Key := Sum Int Str
def keyIs : Key → Value → Bool
  | .inl k, v => Value.isInt k v
  | .inr x, v => Value.isStrOf x v
def keyH (w : World) : Key → Int
  | .inl k => hashInt k
  | .inr x => hashStr w x
theorem keyIs_shape : ∀ {k : Key} {v : Value}, keyIs k v = true → (∃ i t, k = Sum.inl i ∧ v = Value.int i t) ∨ (∃ x t, k = Sum.inr x ∧ v = Value.str x t)
  | .inl i, v, h => by
    obtain ⟨t, e⟩ := Value.isInt_shape (k := i) (v := v) h
    exact .inl ⟨i, t, rfl, e⟩
  | .inr x, v, h => by
    obtain ⟨t, e⟩ := Value.isStrOf_shape (x := x) (v := v) h
    exact .inr ⟨x, t, rfl, e⟩
theorem key_ll (a b : Int) : decide ((Sum.inl a : Key) = Sum.inl b) = (a == b) := by
  by_cases e : a = b
  · subst e; simp
  · have h : ¬ (Sum.inl a : Key) = Sum.inl b := fun q => e (Sum.inl.inj q)
    rw [decide_eq_false h]
    exact (beq_eq_false_iff_ne.mpr e).symm
theorem key_rr (a b : Str) : decide ((Sum.inr a : Key) = Sum.inr b) = decide (a = b) := by
  by_cases e : a = b
  · subst e; simp
  · have h : ¬ (Sum.inr a : Key) = Sum.inr b := fun q => e (Sum.inr.inj q)
    rw [decide_eq_false h, decide_eq_false e]
theorem key_lr (a : Int) (b : Str) : decide ((Sum.inl a : Key) = Sum.inr b) = false := decide_eq_false (fun q => nomatch q)
theorem key_rl (a : Str) (b : Int) : decide ((Sum.inr a : Key) = Sum.inl b) = false := decide_eq_false (fun q => nomatch q)
def mixKind (prog : Program) (w : World) : PySem.KeyKind prog w Key where
  is := keyIs
  hash := keyH w
  inj := fun v a b ha hb => by
    rcases keyIs_shape ha with ⟨i, t, rfl, rfl⟩ | ⟨x, t, rfl, rfl⟩
    · rcases keyIs_shape hb with ⟨j, u, rfl, e⟩ | ⟨y, u, rfl, e⟩
      · injection e with e1 _; rw [e1]
      · exact nomatch e
    · rcases keyIs_shape hb with ⟨j, u, rfl, e⟩ | ⟨y, u, rfl, e⟩
      · exact nomatch e
      · injection e with e1 _; rw [e1]
  byValue := fun k v h => by
    rcases keyIs_shape h with ⟨i, t, rfl, rfl⟩ | ⟨x, t, rfl, rfl⟩ <;> rfl
  pyHash := fun hv h => by
    rcases keyIs_shape hv with ⟨i, t, rfl, rfl⟩ | ⟨x, t, rfl, rfl⟩
    · exact wpAny_pyHash_int h
    · exact wpAny_pyHash_str h
  eqBool := fun hu hv h => by
    rcases keyIs_shape hu with ⟨i, t, rfl, rfl⟩ | ⟨x, t, rfl, rfl⟩
    · rcases keyIs_shape hv with ⟨j, u, rfl, rfl⟩ | ⟨y, u, rfl, rfl⟩
      · rw [key_ll] at h; exact wpAny_eqBool_int h
      · rw [key_lr] at h; exact SeqAt.EqAt.int_str i t y u _ _ _ _ h
    · rcases keyIs_shape hv with ⟨j, u, rfl, rfl⟩ | ⟨y, u, rfl, rfl⟩
      · rw [key_rl] at h; exact SeqAt.EqAt.str_int x t j u _ _ _ _ h
      · rw [key_rr] at h; exact wpAny_eqBool_str h
  «strs» := fun k x t v h => by
    rcases keyIs_shape h with ⟨i, u, rfl, e⟩ | ⟨y, u, rfl, e⟩
    · exact nomatch e
    · injection e with e1 _
      subst e1
      cases v <;> rfl
end L2
namespace L2
open PySem PySem.Spec PyProof.Rows
inductive V where
  | non | bl (b : Bool) | int (i : Int) | str (x : Str) | byt (b : Array UInt8) | flt (b : UInt64) | ref (a : Addr) | ty (n : String)
  deriving DecidableEq
def RelV : V → Value → Prop
  | .non, u => u = Value.none
  | .bl b, u => u = Value.bool b
  | .int i, u => ∃ t, u = Value.int i t
  | .str x, u => ∃ t, u = Value.str x t
  | .byt b, u => ∃ t, u = Value.bytes b t
  | .flt b, u => ∃ t, u = Value.float b t
  | .ref a, u => u = Value.ref a
  | .ty n, u => u = Value.type n
abbrev Vals : List V → List Value → Prop := Paired RelV
theorem Vals.length {xs : List V} {us : List Value} (r : Vals xs us) : xs.length = us.length := Paired.length r
theorem Vals.get : ∀ {xs : List V} {us : List Value} {i : Nat} {x : V}, Vals xs us → xs[i]? = some x → ∃ u, us[i]? = some u ∧ RelV x u
  | _, _, _, _, .nil, e => by simp at e
  | _, _, 0, _, .cons r _, e => by simp at e; subst e; exact ⟨_, rfl, r⟩
  | _, _, i + 1, x, .cons _ t, e => by
    obtain ⟨u, h1, h2⟩ := Vals.get (i := i) (x := x) t (by simpa using e)
    exact ⟨u, by simpa using h1, h2⟩
theorem Vals.set {x : V} {u : Value} (r : RelV x u) : ∀ {xs : List V} {us : List Value} (i : Nat), Vals xs us → Vals (xs.set i x) (us.set i u)
  | _, _, _, .nil => .nil
  | _, _, 0, .cons _ t => .cons r t
  | _, _, i + 1, .cons q t => .cons q (Vals.set r i t)
theorem Vals.append : ∀ {xs ys : List V} {us ws : List Value}, Vals xs us → Vals ys ws → Vals (xs ++ ys) (us ++ ws)
  | _, _, _, _, .nil, s => s
  | _, _, _, _, .cons r t, s => .cons r (Vals.append t s)
theorem Vals.take : ∀ {xs : List V} {us : List Value} (n : Nat), Vals xs us → Vals (xs.take n) (us.take n)
  | _, _, 0, _ => .nil
  | _, _, _ + 1, .nil => .nil
  | _, _, n + 1, .cons r t => .cons r (Vals.take n t)
theorem Vals.drop : ∀ {xs : List V} {us : List Value} (n : Nat), Vals xs us → Vals (xs.drop n) (us.drop n)
  | _, _, 0, r => r
  | _, _, _ + 1, .nil => .nil
  | _, _, n + 1, .cons _ t => Vals.drop n t
def RelO : Option V → Option Value → Prop
  | some v, some u => RelV v u
  | none, none => True
  | _, _ => False
def KV {κ : Type} : List (κ × V) → List (κ × Value) → Prop := Paired fun (p : κ × V) (q : κ × Value) => p.1 = q.1 ∧ RelV p.2 q.2
def kV : Key → V
  | .inl i => .int i
  | .inr x => .str x
inductive HO where
  /-- a list -/
  | lst (xs : List V)
  /-- a tuple (never changes) -/
  | tup (xs : List V)
  /-- a dict whose keys are ints and texts; one whose keys are tuples of ints and texts (the empty one is both) -/
  | dK (kvs : List (Key × V)) | dT (kvs : List (List Key × V))
  /-- a set of ints: its members, its size -/
  | set (S : Int → Bool) (n : Nat)
  /-- an instance of the class at C, its dict at dx, its attributes -/
  | ins (C dx : Addr) (fs : List (Str × V))
  /-- the dict of the instance at x -/
  | own (x : Addr)
  /-- the dict of an exception -/
  | xd (fs : List (Str × V))
  /-- a bound method, f of x -/
  | met (f x : Addr)
  /-- a range object lo, lo + 1, .. below hi -/
  | rng (lo hi : Int)
  /-- a thing that is known to the object (the script; a dict while a loop walks it): read, never written while it is so -/
  | frz (o : Obj) (u : HO)
  /-- a code object's table -/
  | tbl (ps : Array Value)
  /-- any other thing, by what is true of its one object (a def of one's own: SetO a S n := HO.ext fun h => ..) -/
  | ext (φ : Heap → Prop)
abbrev Hp := Addr → Option HO
def upd (H : Hp) (a : Addr) (o : HO) : Hp := fun b => if b = a then some o else H b
theorem upd_same {H : Hp} {a : Addr} {o : HO} : upd H a o a = some o := by unfold upd; rw [if_pos rfl]
theorem upd_ne {H : Hp} {a b : Addr} {o : HO} (h : b ≠ a) : upd H a o b = H b := by unfold upd; rw [if_neg h]
theorem ne_of_none {H : Hp} {a b : Addr} {o : HO} (h : H a = some o) (h' : H b = none) : a ≠ b := by
  intro e; subst e; rw [h] at h'; cases h'
section
variable (P : Program) (w : World)
def ObjOk (H : Hp) (h : Heap) (a : Addr) : HO → Prop
  | .lst xs => xs.length ≤ sizeLine ∧ ∃ (its : List Value) (n : Nat), Vals xs its ∧ h.get? a = some { cls := .type "list", data := .seq its.toArray n }
  | .tup xs => xs.length ≤ sizeLine ∧ ∃ its : List Value, Vals xs its ∧ IsTup h a its.toArray
  | .dK kvs => kvs.length ≤ sizeLine ∧ (a == sysModules) = false ∧ ∃ vs, KV kvs vs ∧ h.DictOf (mixKind P w) a vs
  | .dT kvs => kvs.length ≤ sizeLine ∧ (a == sysModules) = false ∧ ∃ xs : List (List Key × Addr × Value),
      Paired (fun (p : List Key × V) (q : List Key × Addr × Value) => p.1 = q.1 ∧ H q.2.1 = some (.tup (p.1.map kV)) ∧ RelV p.2 q.2.2) kvs xs ∧
      ∃ o es ep, h.get? a = some o ∧ o.ExactDict ∧ o.data = .dict es ep ∧ es.toList = xs.map (entryOfKey (tupleKind (mixKind P w))) ∧ (xs.map (·.1)).Nodup
  | .set S n => h.SetOf (intKind P w) a S n
  | .ins C dx fs => H dx = some (.own a) ∧ fs.length ≤ 1000 ∧ dx ≠ a ∧ h.get? a = some (PySem.W.instObj C dx) ∧
      ∃ mA, h.Ns1 dx mA ∧ (∀ f, RelO (fs.lookup f) (mA f)) ∧ PySem.Within mA (fs.map (·.1))
  | .own _ => ∃ o, h.get? a = some o
  | .xd fs => ∃ mA, h.Ns1 a mA ∧ ∀ f, RelO (fs.lookup f) (mA f)
  | .rng lo hi => ∃ t u v, h.get? a = some { cls := .type "range", data := .fields #[.int lo t, .int hi u, .int 1 v] }
  | .frz o u => h.get? a = some o ∧ ObjOk H h a u
  | .tbl ps => h.get? a = some { cls := .none, data := .fields ps }
  | .met f x => h.get? a = some (PySem.W.methodObj (.ref f) (.ref x))
  | .ext φ => φ h ∧ (∃ o, h.get? a = some o) ∧ ∀ h1 h2 : Heap, φ h1 → (∀ o, h1.get? a = some o → h2.get? a = some o) → φ h2
def HOk (H : Hp) (h : Heap) : Prop := ∀ a o, H a = some o → ObjOk P w H h a o
end
section
variable {P : Program} {w : World} {H H' : Hp} {h h' : Heap} {a : Addr} {o : HO}
theorem ObjOk.lt (x : ObjOk P w H h a o) : a < h.objs.size := by
  cases o with
  | lst xs => obtain ⟨_, _, _, _, e⟩ := x; exact Heap.lt_size e
  | tup xs => obtain ⟨_, _, _, p⟩ := x; exact p.lt
  | dK kvs => obtain ⟨_, _, _, _, o, _, _, e, _⟩ := x; exact Heap.lt_size e
  | dT kvs => obtain ⟨_, _, _, _, o, _, _, e, _⟩ := x; exact Heap.lt_size e
  | set S n => obtain ⟨o, _, _, _, e, _⟩ := x; exact Heap.lt_size e
  | ins C dx fs => obtain ⟨_, _, _, e, _⟩ := x; exact Heap.lt_size e
  | own y => obtain ⟨_, e⟩ := x; exact Heap.lt_size e
  | xd fs => obtain ⟨_, ⟨_, _, _, e, _⟩, _⟩ := x; exact Heap.lt_size e
  | rng lo hi => obtain ⟨_, _, _, e⟩ := x; exact Heap.lt_size e
  | frz ob u => obtain ⟨e, _⟩ := x; exact Heap.lt_size e
  | tbl ps => exact Heap.lt_size (show h.get? a = some _ from x)
  | met f y => exact Heap.lt_size (show h.get? a = some _ from x)
  | ext φ => obtain ⟨_, ⟨_, e⟩, _⟩ := x; exact Heap.lt_size e
theorem Paired.mapP {α β : Type} {F G : α → β → Prop} : ∀ {l₁ : List α} {l₂ : List β}, Paired F l₁ l₂ → (∀ a b, F a b → G a b) → Paired G l₁ l₂
  | _, _, .nil, _ => .nil
  | _, _, .cons r t, f => .cons (f _ _ r) (Paired.mapP t f)
theorem ObjOk.stay (x : ObjOk P w H h a o) (k : ∀ b u, (b = a ∨ H b = some (.own a)) → h.get? b = some u → h'.get? b = some u)
    (ho : ∀ b, H b = some (.own a) → H' b = some (.own a)) (ht : ∀ b xs, H b = some (.tup xs) → H' b = some (.tup xs)) : ObjOk P w H' h' a o := by
  induction o with
  | lst xs => obtain ⟨z, its, n, r, e⟩ := x; exact ⟨z, its, n, r, k _ _ (.inl rfl) e⟩
  | tup xs => obtain ⟨z, its, r, ob, e, c⟩ := x; exact ⟨z, its, r, ob, k _ _ (.inl rfl) e, c⟩
  | dK kvs => obtain ⟨z, y, vs, r, ob, es, ep, e, c⟩ := x; exact ⟨z, y, vs, r, ob, es, ep, k _ _ (.inl rfl) e, c⟩
  | dT kvs =>
    obtain ⟨z, y, xs, r, ob, es, ep, e, c⟩ := x
    exact ⟨z, y, xs, Paired.mapP r fun p q z => ⟨z.1, ht _ _ z.2.1, z.2.2⟩, ob, es, ep, k _ _ (.inl rfl) e, c⟩
  | set S n => obtain ⟨ob, es, ep, t, e, c⟩ := x; exact ⟨ob, es, ep, t, k _ _ (.inl rfl) e, c⟩
  | ins C dx fs =>
    obtain ⟨d, z, ne, e, mA, ⟨od, es, ep, e2, c⟩, r⟩ := x
    exact ⟨ho _ d, z, ne, k _ _ (.inl rfl) e, mA, ⟨od, es, ep, k _ _ (.inr d) e2, c⟩, r⟩
  | own y => obtain ⟨ob, e⟩ := x; exact ⟨ob, k _ _ (.inl rfl) e⟩
  | xd fs => obtain ⟨mA, ⟨od, es, ep, e, c⟩, r⟩ := x; exact ⟨mA, ⟨od, es, ep, k _ _ (.inl rfl) e, c⟩, r⟩
  | rng lo hi => obtain ⟨t, u, v, e⟩ := x; exact ⟨t, u, v, k _ _ (.inl rfl) e⟩
  | frz ob u ih => obtain ⟨e, q⟩ := x; exact ⟨k _ _ (.inl rfl) e, ih q⟩
  | tbl ps =>
    have e : h.get? a = some { cls := .none, data := .fields ps } := x
    show h'.get? a = some { cls := .none, data := .fields ps }
    exact k a _ (.inl rfl) e
  | met f y =>
    have e : h.get? a = some (PySem.W.methodObj (.ref f) (.ref y)) := x
    show h'.get? a = some (PySem.W.methodObj (.ref f) (.ref y))
    exact k a _ (.inl rfl) e
  | ext φ => obtain ⟨p, ⟨o, e⟩, st⟩ := x; exact ⟨st _ _ p fun o q => k _ _ (.inl rfl) q, ⟨o, k _ _ (.inl rfl) e⟩, st⟩
theorem HOk.lt (x : HOk P w H h) (e : H a = some o) : a < h.objs.size := (x a o e).lt
theorem HOk.fresh (x : HOk P w H h) (e : h.objs.size ≤ a) : H a = none := by
  cases q : H a with
  | none => rfl
  | some u => exact absurd (Nat.lt_of_lt_of_le (x.lt q) e) (Nat.lt_irrefl _)
theorem HOk.kept (x : HOk P w H h) (k : ∀ b u, h.get? b = some u → h'.get? b = some u) : HOk P w H h' := fun a o e =>
  (x a o e).stay (fun b u _ q => k b u q) (fun _ q => q) fun _ _ q => q
theorem HOk.laid (x : HOk P w H h) (k : ∀ b u, h.get? b = some u → h'.get? b = some u) (hp : h.objs.size ≤ a) (new : ObjOk P w (upd H a o) h' a o) : HOk P w (upd H a o) h' := fun b u e => by
  have hn := x.fresh hp
  by_cases hb : b = a
  · subst hb; rw [upd_same] at e; cases e; exact new
  · rw [upd_ne hb] at e
    exact (x b u e).stay (fun c v _ q => k c v q) (fun c q => by rw [upd_ne (ne_of_none q hn)]; exact q) fun c xs q => by rw [upd_ne (ne_of_none q hn)]; exact q
end
def Rd (H : Hp) (a : Addr) (u : HO) : Prop := H a = some u ∨ ∃ o, H a = some (.frz o u)
theorem Rd.of {H : Hp} {a : Addr} {u : HO} (h : H a = some u) : Rd H a u := .inl h
theorem Rd.ok {P : Program} {w : World} {H : Hp} {h : Heap} {a : Addr} {u : HO} (r : Rd H a u) (x : HOk P w H h) : ObjOk P w H h a u := by
  rcases r with r | ⟨o, r⟩
  · exact x a u r
  · obtain ⟨_, q⟩ := x a _ r
    exact q
def Mut : Option HO → Prop
  | some (.lst _) => True
  | some (.dK _) => True
  | some (.dT _) => True
  | some (.set _ _) => True
  | some (.ins _ _ _) => True
  | some (.ext _) => True
  | _ => False
section
variable {P : Program} {w : World} {H : Hp} {h h' : Heap} {x e : Addr} {o' : HO}
theorem HOk.write (ok : HOk P w H h) (mu : Mut (H x)) (he : e = x ∨ H e = some (.own x)) (k : ∀ b u, b ≠ e → h.get? b = some u → h'.get? b = some u) (heo : ∃ u, h'.get? e = some u)
    (new : ObjOk P w (upd H x o') h' x o') : HOk P w (upd H x o') h' := fun b u q => by
  have nown : ∀ c y, H c = some (.own y) → c ≠ x := fun c y r z => by subst z; rw [r] at mu; exact mu
  have ntup : ∀ c xs, H c = some (.tup xs) → c ≠ x := fun c xs r z => by subst z; rw [r] at mu; exact mu
  by_cases hb : b = x
  · subst hb; rw [upd_same] at q; cases q; exact new
  · rw [upd_ne hb] at q
    by_cases hbe : b = e
    · have q' : H b = some (.own x) := by
        rcases he with z | z
        · exact absurd (hbe.trans z) hb
        · rw [hbe]; exact z
      rw [q] at q'; cases q'
      obtain ⟨v, hv⟩ := heo
      exact ⟨v, by rw [hbe]; exact hv⟩
    · refine (ok b u q).stay (fun c v hc r => k c v ?_ r) (fun c r => by rw [upd_ne (nown c b r)]; exact r) fun c xs r => by rw [upd_ne (ntup c xs r)]; exact r
      rcases hc with rfl | hc
      · exact hbe
      · rintro rfl
        rcases he with z | z
        · exact nown c b hc z
        · rw [hc] at z; cases z; exact hb rfl
end
structure Un (fs ex : List Addr) (H H' : Hp) (h h' : Heap) : Prop where
  keep : ∀ b o, h.get? b = some o → H b = none → b ∉ fs → b ∉ ex → h'.get? b = some o
  slot : ∀ b o, h.get? b = some o → H b = none → b ∈ fs → b ∉ ex → ∃ sl, h'.get? b = some { o with slots := sl }
  free : ∀ b o, h.get? b = some o → H b = none → b ∉ ex → H' b = none
  there : ∀ b o, h.get? b = some o → b ∉ ex → ∃ o', h'.get? b = some o'
  tups : ∀ b xs, H b = some (.tup xs) → H' b = some (.tup xs)
  frzs : ∀ b o u, H b = some (.frz o u) → H' b = some (.frz o u)
  tbls : ∀ b ps, H b = some (.tbl ps) → ∃ more, H' b = some (.tbl (ps ++ more))
section
variable {fs fs' ex ex' : List Addr} {H H1 H2 : Hp} {h h1 h2 h' : Heap} {a x e : Addr} {o : HO}
theorem Un.any (u : Un fs ex H H1 h h1) {b : Addr} {ob : Obj} (q : h.get? b = some ob) (n : H b = none) (hx : b ∉ ex) : ∃ sl, h1.get? b = some { ob with slots := sl } := by
  by_cases hb : b ∈ fs
  · exact u.slot b ob q n hb hx
  · exact ⟨ob.slots, u.keep b ob q n hb hx⟩
theorem Un.trans (a : Un fs ex H H1 h h1) (b : Un fs ex H1 H2 h1 h2) : Un fs ex H H2 h h2 where
  keep := fun c ob q n hc hx => b.keep c ob (a.keep c ob q n hc hx) (a.free c ob q n hx) hc hx
  slot := fun c ob q n hc hx => by
    obtain ⟨sl, e1⟩ := a.slot c ob q n hc hx
    obtain ⟨sl', e2⟩ := b.slot c _ e1 (a.free c ob q n hx) hc hx
    exact ⟨sl', e2⟩
  free := fun c ob q n hx => by
    obtain ⟨o', e1⟩ := a.there c ob q hx
    exact b.free c o' e1 (a.free c ob q n hx) hx
  there := fun c ob q hx => by
    obtain ⟨o', e1⟩ := a.there c ob q hx
    exact b.there c o' e1 hx
  tups := fun c xs q => b.tups c xs (a.tups c xs q)
  frzs := fun c ob xs q => b.frzs c ob xs (a.frzs c ob xs q)
  tbls := fun c ps q => by
    obtain ⟨m1, e1⟩ := a.tbls c ps q
    obtain ⟨m2, e2⟩ := b.tbls c _ e1
    exact ⟨m1 ++ m2, by rw [e2, Array.append_assoc]⟩
theorem Un.kept (k : ∀ b u, h.get? b = some u → h'.get? b = some u) : Un fs ex H H h h' :=
  ⟨fun b ob q _ _ _ => k b ob q, fun b ob q _ _ _ => ⟨ob.slots, k b ob q⟩, fun _ _ _ n _ => n, fun b ob q _ => ⟨ob, k b ob q⟩, fun _ _ q => q, fun _ _ _ q => q, fun _ ps q => ⟨#[], by rw [q]; simp⟩⟩
theorem Un.refl : Un fs ex H H h h := Un.kept fun _ _ q => q
theorem Un.laid (k : ∀ b u, h.get? b = some u → h'.get? b = some u) (hp : h.objs.size ≤ a) (hn : H a = none) : Un fs ex H (upd H a o) h h' where
  keep := fun b u q _ _ _ => k b u q
  slot := fun b u q _ _ _ => ⟨u.slots, k b u q⟩
  free := fun b u q n _ => by rw [upd_ne (Nat.ne_of_lt (Nat.lt_of_lt_of_le (Heap.lt_size q) hp))]; exact n
  there := fun b u q _ => ⟨u, k b u q⟩
  tups := fun b xs q => by rw [upd_ne (ne_of_none q hn)]; exact q
  frzs := fun b u xs q => by rw [upd_ne (ne_of_none q hn)]; exact q
  tbls := fun b ps q => ⟨#[], by rw [upd_ne (ne_of_none q hn), q]; simp⟩
theorem Un.write (mu : Mut (H x)) (he : e = x ∨ H e = some (.own x)) (k : ∀ b u, b ≠ e → h.get? b = some u → h'.get? b = some u) (heo : ∃ u, h'.get? e = some u) : Un fs ex H (upd H x o) h h' := by
  have hx : ∀ b, H b = none → b ≠ x := fun b n z => by subst z; rw [n] at mu; exact mu
  have hb : ∀ b, H b = none → b ≠ e := fun b n z => by
    subst z
    rcases he with r | r
    · exact hx b n r
    · rw [n] at r; cases r
  have hm : ∀ b u, H b = some u → ¬ Mut (some u) → b ≠ x := fun b u q nm z => by subst z; rw [q] at mu; exact nm mu
  refine ⟨fun b u q n _ _ => k b u (hb b n) q, fun b u q n _ _ => ⟨u.slots, k b u (hb b n) q⟩, fun b u q n _ => by rw [upd_ne (hx b n)]; exact n, fun b u q _ => ?_,
    fun b xs q => by rw [upd_ne (hm b _ q fun z => z)]; exact q, fun b u xs q => by rw [upd_ne (hm b _ q fun z => z)]; exact q, fun b ps q => ⟨#[], by rw [upd_ne (hm b _ q fun z => z), q]; simp⟩⟩
  by_cases hbe : b = e
  · subst hbe; exact heo
  · exact ⟨u, k b u hbe q⟩
theorem Un.mono (u : Un fs ex H H1 h h1) (hs : ∀ b ∈ fs, b ∈ fs') (hx : ∀ b ∈ ex, b ∈ ex') : Un fs' ex' H H1 h h1 :=
  ⟨fun b ob q n hb he => u.keep b ob q n (fun z => hb (hs b z)) fun z => he (hx b z), fun _ _ q n _ he => u.any q n fun z => he (hx _ z), fun b ob q n he => u.free b ob q n fun z => he (hx b z), fun b ob q he => u.there b ob q fun z => he (hx b z), u.tups, u.frzs, u.tbls⟩
end
def trk (h : Heap) (H : Hp) : List Addr := (List.range h.objs.size).filter fun a => (H a).isSome
def hidT (h : Heap) (H : Hp) : Heap := PySem.W.hideAll h (trk h H)
theorem hidT_size (h : Heap) (H : Hp) : (hidT h H).objs.size = h.objs.size := PySem.W.hideAll_size _ _
theorem hidT_get {h : Heap} {H : Hp} {b : Addr} {o : Obj} (e : h.get? b = some o) (n : H b = none) : (hidT h H).get? b = some o :=
  PySem.W.hideAll_get _ e fun hm => by
    have q : (H b).isSome = true := (List.mem_filter.mp hm).2
    rw [n] at q; simp at q
theorem of_hidT {h : Heap} {H : Hp} {b : Addr} {o : Obj} (e : (hidT h H).get? b = some o) : h.get? b = some o ∧ H b = none := by
  have e' : h.get? b = some o := PySem.W.of_hideAll (trk h H) e
  refine ⟨e', ?_⟩
  cases q : H b with
  | none => rfl
  | some x =>
    have hm : b ∈ trk h H := List.mem_filter.mpr ⟨List.mem_range.mpr (Heap.lt_size e'), by simp [q]⟩
    have z : (hidT h H).get? b = none := PySem.W.hideAll_none (trk h H) hm
    rw [z] at e; cases e
def allNews (g h : Heap) (L : Addr) : List (Addr × Obj) := (List.range h.objs.size).filterMap fun a => if a = L ∨ (g.get? a).isSome = true then none else (h.get? a).map fun o => (a, o)
def rest (g h : Heap) (L d : Addr) : List (Addr × Obj) := (allNews g h L).filter fun p => decide (p.1 ≠ d)
end L2
namespace L2
open PySem PySem.Spec PyProof.Rows
structure Mod (K : PySem.W.Frag) (mg : Str → Option Value) (base : Heap) : Prop where
  kin : K.In base
  glob : base.Ns mainGlobals mg
  blt : ∃ mb, base.Ns builtinsNs mb ∧ ∀ x : Str, x ≠ "__name__" → mb x = bootBuiltins x
  nolimit : base.NoLimit
structure Cx where
  prog : Program
  w : World
  K : PySem.W.Frag
  mg : Str → Option Value
  base : Heap
  A : Around
  N : List Str
  s₀ : Shared
  H₀ : Hp
  env : Env
  outer : List Env
  stack : List Env
  ex : List Addr
  fn : Str → Bool
  calm : Bool
  pn : List (Addr × Obj)
  xe : Value → Shared → Prop
def frs (l : List Env) : List Addr := l.filterMap (·.frame)
abbrev Cx.fs (X : Cx) : List Addr := frs X.outer
def Vis (sc : Scope) (x : Str) : Prop := sc.names.lookup x = some .local ∨ sc.names.lookup x = some .cell ∨ sc.names.lookup x = some .free
def Loc (sc : Scope) (x : Str) : Prop := sc.names.lookup x = some .local ∨ sc.names.lookup x = some .cell
def Look (env : Env) (h : Heap) (m : Str → Option Value) (x : Str) (u : Value) : Prop :=
  (env.kindOf x = some .local ∧ m x = some u) ∨ ((env.kindOf x = some .cell ∨ env.kindOf x = some .free) ∧ ∃ c, env.cells.lookup x = some c ∧ h.IsCell c (some u))
structure Cx.Ok (X : Cx) : Prop where
  mod : Mod X.K X.mg X.base
  kind : X.env.scope.kind = .function
  glob : X.env.globals = mainGlobals
  blt : X.env.builtins = builtinsNs
  above : X.s₀.heap.objs.size ≤ X.env.locals
  inj : ∀ x y c, X.env.cells.lookup x = some c → X.env.cells.lookup y = some c → x = y
  has : ∀ x, (X.env.kindOf x = some .cell ∨ X.env.kindOf x = some .free) → ∃ c, X.env.cells.lookup x = some c
  cab : ∀ x c, X.fn x = true → X.env.cells.lookup x = some c → X.s₀.heap.objs.size ≤ c
  hd : X.calm = true → X.A.handled = none
  frames : X.A.frames = some X.stack
  stk : X.stack = X.outer ∨ (X.stack = X.env :: X.outer ∧ X.env.frame = some X.env.locals)
  exf : ∀ b ∈ X.ex, b ≠ X.env.locals ∧ ∀ x c, X.env.cells.lookup x = some c → c ≠ b
  bs : ∀ b o, X.base.get? b = some o → X.s₀.heap.get? b = some o ∧ X.H₀ b = none
  bsz : X.base.objs.size ≤ X.s₀.heap.objs.size
  noex : ∀ b o, X.base.get? b = some o → b ∉ X.ex
  exfs : ∀ b ∈ X.ex, b ∉ X.fs
  funs : X.s₀.heap.FunFrames X.base X.outer
  frf : ∀ b ∈ X.fs, X.H₀ b = none
structure Inv (X : Cx) (pins : List (Addr × Obj)) (σ : List (Option V)) (H : Hp) (s : Shared) : Prop where
  ok : X.Ok
  os : s.os = X.s₀.os
  bare : AllBare s.gens
  base : Un X.fs X.ex X.H₀ H X.s₀.heap s.heap
  loc : ∃ m, s.heap.Ns X.env.locals m ∧ ∀ (i : Nat) (x : Str) (v : V), X.N[i]? = some x → σ[i]? = some (some v) → Vis X.env.scope x → ∃ u, RelV v u ∧ Look X.env s.heap m x u
  cell : ∀ x c, X.env.cells.lookup x = some c → ∃ v, s.heap.IsCell c v
  free : H X.env.locals = none
  freeC : ∀ x c, X.env.cells.lookup x = some c → H c = none
  pin : ∀ p ∈ X.pn ++ pins, s.heap.get? p.1 = some p.2 ∧ H p.1 = none ∧ p.1 ≠ X.env.locals ∧ p.1 ∉ X.fs ∧ ∀ v, p.2.data ≠ .cell v
  hok : HOk X.prog X.w H s.heap
  len : σ.length = X.N.length
section
variable {X : Cx} {pins : List (Addr × Obj)} {σ : List (Option V)} {H H' : Hp} {s : Shared} {h' : Heap}
theorem Cx.Ok.nofr (ok : X.Ok) {b : Addr} {o : Obj} (e : X.base.get? b = some o) : b ∉ X.fs := fun hb => by
  have := (ok.funs.mem hb).1
  rw [e] at this; cases this
theorem Inv.bs (I : Inv X pins σ H s) : ∀ b o, X.base.get? b = some o → s.heap.get? b = some o ∧ H b = none := fun b o e =>
  ⟨I.base.keep b o (I.ok.bs b o e).1 (I.ok.bs b o e).2 (I.ok.nofr e) (I.ok.noex b o e), I.base.free b o (I.ok.bs b o e).1 (I.ok.bs b o e).2 (I.ok.noex b o e)⟩
theorem Inv.bk (I : Inv X pins σ H s) : ∀ b o, X.base.get? b = some o → s.heap.get? b = some o := fun b o e => (I.bs b o e).1
theorem Inv.mod (I : Inv X pins σ H s) : Mod X.K X.mg X.base := I.ok.mod
theorem Inv.kIn (I : Inv X pins σ H s) : X.K.In s.heap := I.ok.mod.kin.keeps I.bk
theorem Inv.nolimit (I : Inv X pins σ H s) : s.heap.NoLimit := I.ok.mod.nolimit.keeps I.bk
theorem Inv.lt (I : Inv X pins σ H s) : X.env.locals < s.heap.objs.size := let ⟨_, hn, _⟩ := I.loc; hn.lt
theorem Inv.sz (I : Inv X pins σ H s) : X.s₀.heap.objs.size ≤ s.heap.objs.size := Nat.le_trans I.ok.above (Nat.le_of_lt I.lt)
theorem Inv.nofs (I : Inv X pins σ H s) {a : Addr} (h : s.heap.objs.size ≤ a) : a ∉ X.fs := fun hb => by
  obtain ⟨_, o, ho, _⟩ := I.ok.funs.mem hb
  exact absurd (Nat.lt_of_lt_of_le (Heap.lt_size ho) (Nat.le_trans I.sz h)) (Nat.lt_irrefl _)
theorem Inv.cne (I : Inv X pins σ H s) : ∀ x c, X.env.cells.lookup x = some c → c ≠ X.env.locals := fun x c e z => by
  obtain ⟨v, o, ho, hd⟩ := I.cell x c e
  obtain ⟨m, ⟨o', es, ep, ho', hd', _⟩, _⟩ := I.loc
  rw [z, ho'] at ho; cases ho; rw [hd'] at hd; cases hd
theorem Inv.funs (I : Inv X pins σ H s) : s.heap.FunFrames X.base X.outer := by
  have all : ∀ (l : List Env), (∀ b ∈ frs l, b ∈ X.fs) → X.s₀.heap.FunFrames X.base l → s.heap.FunFrames X.base l := by
    intro l
    induction l with
    | nil => intro _ _; trivial
    | cons env r ih =>
      intro hs hl
      obtain ⟨hk, ⟨L, o, hf, hn, ho, hd⟩, hr⟩ := hl
      have hL : L ∈ X.fs := hs L (by unfold frs; rw [List.filterMap_cons, hf]; exact List.mem_cons_self)
      obtain ⟨sl, e⟩ := I.base.slot L o ho (I.ok.frf L hL) hL fun z => I.ok.exfs L z hL
      exact ⟨hk, ⟨L, _, hf, hn, e, hd⟩, ih (fun b hb => hs b (by unfold frs; rw [List.filterMap_cons, hf]; exact List.mem_cons_of_mem _ hb)) hr⟩
  exact all X.outer (fun _ hb => hb) I.ok.funs
theorem Inv.stack (I : Inv X pins σ H s) : s.heap.FunFrames X.base X.stack := by
  rcases I.ok.stk with e | ⟨e, hf⟩
  · rw [e]; exact I.funs
  · rw [e]
    obtain ⟨m, hn, _⟩ := I.loc
    refine .cons (by rw [I.ok.kind]; decide) hf hn ?_ I.funs
    exact Heap.get?_none_of_le (Nat.le_trans I.ok.bsz I.ok.above)
theorem Inv.stkSub (I : Inv X pins σ H s) : ∀ b ∈ frs X.stack, b ∈ X.env.locals :: X.fs := fun b hb => by
  rcases I.ok.stk with e | ⟨e, hf⟩
  · rw [e] at hb; exact List.mem_cons_of_mem _ hb
  · rw [e] at hb
    unfold frs at hb
    rw [List.filterMap_cons, hf] at hb
    exact hb
theorem Inv.stkFree (I : Inv X pins σ H s) : ∀ b ∈ frs X.stack, H b = none := fun b hb => by
  rcases List.mem_cons.mp (I.stkSub b hb) with e | hb
  · rw [e]; exact I.free
  · obtain ⟨_, o, ho, _⟩ := I.ok.funs.mem hb
    exact I.base.free b o ho (I.ok.frf b hb) fun z => I.ok.exfs b z hb
theorem Inv.step {g' : Array GenState} {t' : Nat} {d' : Drawn} {ch : List Addr} (I : Inv X pins σ H s)
    (hch : ∀ b ∈ ch, (b ∈ X.ex ∨ X.s₀.heap.objs.size ≤ b) ∧ b ≠ X.env.locals ∧ (∀ x c, X.env.cells.lookup x = some c → c ≠ b) ∧ ∀ p ∈ X.pn ++ pins, p.1 ≠ b)
    (keep : ∀ b o, b ≠ X.env.locals → b ∉ X.fs → b ∉ ch → s.heap.get? b = some o → H b = none → h'.get? b = some o)
    (slot : ∀ b o, b ≠ X.env.locals → b ∈ X.fs → b ∉ ch → s.heap.get? b = some o → H b = none → ∃ sl, h'.get? b = some { o with slots := sl }) (free : ∀ b o, b ∉ ch → s.heap.get? b = some o → H b = none → H' b = none)
    (there : ∀ b o, b ∉ ch → s.heap.get? b = some o → ∃ o', h'.get? b = some o')
    (tups : ∀ b xs, H b = some (.tup xs) → H' b = some (.tup xs)) (frzs : ∀ b o u, H b = some (.frz o u) → H' b = some (.frz o u)) (tbls : ∀ b ps, H b = some (.tbl ps) → ∃ more, H' b = some (.tbl (ps ++ more)))
    (ns : ∀ m, s.heap.Ns X.env.locals m → h'.Ns X.env.locals m) (hok : HOk X.prog X.w H' h') (hg : AllBare g') :
    Inv X pins σ H' { s with heap := h', gens := g', drawn := d', toks := t' } := by
  have neL : ∀ b o, X.s₀.heap.get? b = some o → b ≠ X.env.locals := fun b o e => Nat.ne_of_lt (Nat.lt_of_lt_of_le (Heap.lt_size e) I.ok.above)
  have neC : ∀ b o, X.s₀.heap.get? b = some o → b ∉ X.ex → b ∉ ch := fun b o e hx hb => by
    rcases (hch b hb).1 with z | z
    · exact hx z
    · exact absurd (Nat.lt_of_lt_of_le (Heap.lt_size e) z) (Nat.lt_irrefl _)
  have cellK : ∀ x c, X.env.cells.lookup x = some c → ∀ v, s.heap.IsCell c v → h'.IsCell c v := fun x c e v ⟨o, ho, hd⟩ => by
    have nch : c ∉ ch := fun z => (hch c z).2.2.1 x c e rfl
    by_cases hc : c ∈ X.fs
    · obtain ⟨sl, q⟩ := slot c o (I.cne x c e) hc nch ho (I.freeC x c e)
      exact ⟨_, q, hd⟩
    · exact ⟨o, keep c o (I.cne x c e) hc nch ho (I.freeC x c e), hd⟩
  refine ⟨I.ok, I.os, hg, ⟨fun b o e n hb hx => ?_, fun b o e n hb hx => ?_, fun b o e n hx => ?_, fun b o e hx => ?_, fun b xs e => tups b xs (I.base.tups b xs e), fun b o xs e => frzs b o xs (I.base.frzs b o xs e), fun b ps e => ?_⟩, ?_, fun x c e => ?_, ?_, fun x c e => ?_, fun p hp => ?_, hok, I.len⟩
  · exact keep b o (neL b o e) hb (neC b o e hx) (I.base.keep b o e n hb hx) (I.base.free b o e n hx)
  · obtain ⟨sl, e1⟩ := I.base.slot b o e n hb hx
    obtain ⟨sl', e2⟩ := slot b _ (neL b o e) hb (neC b o e hx) e1 (I.base.free b o e n hx)
    exact ⟨sl', e2⟩
  · obtain ⟨o', e1⟩ := I.base.there b o e hx
    exact free b o' (neC b o e hx) e1 (I.base.free b o e n hx)
  · obtain ⟨o', e1⟩ := I.base.there b o e hx
    exact there b o' (neC b o e hx) e1
  · obtain ⟨m1, e1⟩ := I.base.tbls b ps e
    obtain ⟨m2, e2⟩ := tbls b _ e1
    exact ⟨m1 ++ m2, by rw [e2, Array.append_assoc]⟩
  · obtain ⟨m, hn, hl⟩ := I.loc
    refine ⟨m, ns m hn, fun i x v e1 e2 e3 => ?_⟩
    obtain ⟨u, r, l⟩ := hl i x v e1 e2 e3
    refine ⟨u, r, ?_⟩
    rcases l with l | ⟨k, c, e, z⟩
    · exact .inl l
    · exact .inr ⟨k, c, e, cellK x c e _ z⟩
  · obtain ⟨v, z⟩ := I.cell x c e
    exact ⟨v, cellK x c e v z⟩
  · obtain ⟨m, ⟨o, _, _, ho, _⟩, _⟩ := I.loc
    exact free _ o (fun z => (hch _ z).2.1 rfl) ho I.free
  · obtain ⟨v, o, ho, hd⟩ := I.cell x c e
    exact free c o (fun z => (hch c z).2.2.1 x c e rfl) ho (I.freeC x c e)
  · obtain ⟨e, n, ne, nf, d⟩ := I.pin p hp
    have nch : p.1 ∉ ch := fun z => (hch p.1 z).2.2.2 p hp rfl
    exact ⟨keep p.1 p.2 ne nf nch e n, free p.1 p.2 nch e n, ne, nf, d⟩
theorem Inv.un {t' : Nat} (I : Inv X pins σ H s) (u : Un X.fs [] H H' s.heap h') (hok : HOk X.prog X.w H' h') : Inv X pins σ H' { s with heap := h', toks := t' } := by
  obtain ⟨m, ⟨o, es, ep, ho, r⟩, _⟩ := id I.loc
  obtain ⟨sl, hL⟩ := u.any ho I.free (by simp)
  exact I.step (g' := s.gens) (d' := s.drawn) (ch := []) (fun _ z => nomatch z) (fun b o _ hb _ e n => u.keep b o e n hb (by simp)) (fun b o _ hb _ e n => u.slot b o e n hb (by simp)) (fun b o _ e n => u.free b o e n (by simp)) (fun b o _ e => u.there b o e (by simp)) u.tups u.frzs u.tbls (fun m' hm => by
    obtain ⟨o', es', ep', ho', r'⟩ := hm
    rw [ho] at ho'; cases ho'
    exact ⟨_, es', ep', hL, r'⟩) hok I.bare
theorem Inv.call {g' : Array GenState} {t' : Nat} {d' : Drawn} {ch : List Addr} (I : Inv X pins σ H s) (u : Un (frs X.stack) ch H H' s.heap h') (hok : HOk X.prog X.w H' h') (hg : AllBare g')
    (hch : ∀ b ∈ ch, (b ∈ X.ex ∨ X.s₀.heap.objs.size ≤ b) ∧ b ≠ X.env.locals ∧ (∀ x c, X.env.cells.lookup x = some c → c ≠ b) ∧ ∀ p ∈ X.pn ++ pins, p.1 ≠ b) :
    Inv X pins σ H' { s with heap := h', gens := g', drawn := d', toks := t' } := by
  obtain ⟨m, ⟨o, es, ep, ho, r⟩, _⟩ := id I.loc
  obtain ⟨sl, hL⟩ := u.any ho I.free fun z => (hch _ z).2.1 rfl
  exact I.step (ch := ch) hch (fun b o hL hb hc e n => u.keep b o e n (fun z => (List.mem_cons.mp (I.stkSub b z)).elim hL hb) hc) (fun b o _ _ hc e n => u.any e n hc) (fun b o hc e n => u.free b o e n hc) (fun b o hc e => u.there b o e hc) u.tups u.frzs u.tbls (fun m' hm => by
    obtain ⟨o', es', ep', ho', r'⟩ := hm
    rw [ho] at ho'; cases ho'
    exact ⟨_, es', ep', hL, r'⟩) hok hg
theorem Inv.turned {t' : Nat} {it : Addr} (I : Inv X pins σ H s) (k : ∀ b o, b ≠ it → s.heap.get? b = some o → h'.get? b = some o) (hn : H it = none) (hL : it ≠ X.env.locals)
    (h1 : it ∈ X.ex ∨ X.s₀.heap.objs.size ≤ it) (h2 : ∀ x c, X.env.cells.lookup x = some c → c ≠ it) (h3 : ∀ p ∈ X.pn ++ pins, p.1 ≠ it) : Inv X pins σ H { s with heap := h', toks := t' } := by
  have nit : ∀ b u, H b = some u → b ≠ it := fun b u e z => by rw [z, hn] at e; cases e
  refine I.step (g' := s.gens) (d' := s.drawn) (ch := [it]) (fun b hb => ?_) (fun b o _ _ hc e _ => k b o (fun z => hc (by simp [z])) e) (fun b o _ _ hc e _ => ⟨o.slots, k b o (fun z => hc (by simp [z])) e⟩) (fun _ _ _ _ n => n)
    (fun b o hc e => ⟨o, k b o (fun z => hc (by simp [z])) e⟩) (fun _ _ e => e) (fun _ _ _ e => e) (fun b ps e => ⟨#[], by rw [e]; simp⟩) (fun m hm => ?_) (fun b u e => ?_) I.bare
  · have e : b = it := by simpa using hb
    subst e
    exact ⟨h1, hL, h2, h3⟩
  · obtain ⟨o, es, ep, ho, r⟩ := hm
    exact ⟨o, es, ep, k _ o (Ne.symm hL) ho, r⟩
  · refine (I.hok b u e).stay (fun c v hc q => k c v ?_ q) (fun _ q => q) fun _ _ q => q
    rcases hc with z | z
    · rw [z]; exact nit b u e
    · exact nit c _ z
theorem Inv.tok (I : Inv X pins σ H s) (t : Nat) : Inv X pins σ H { s with toks := t } := I.un (h' := s.heap) (t' := t) Un.refl I.hok
theorem Inv.kept {t' : Nat} (I : Inv X pins σ H s) (k : ∀ b u, s.heap.get? b = some u → h'.get? b = some u) : Inv X pins σ H { s with heap := h', toks := t' } := I.un (Un.kept k) (I.hok.kept k)
theorem Inv.laid {a : Addr} {o : HO} {t' : Nat} (I : Inv X pins σ H s) (k : ∀ b u, s.heap.get? b = some u → h'.get? b = some u) (hp : s.heap.objs.size ≤ a) (new : ObjOk X.prog X.w (upd H a o) h' a o) :
    Inv X pins σ (upd H a o) { s with heap := h', toks := t' } := I.un (Un.laid k hp (I.hok.fresh hp)) (I.hok.laid k hp new)
theorem Inv.write {x e : Addr} {o : HO} {t' : Nat} (I : Inv X pins σ H s) (mu : Mut (H x)) (he : e = x ∨ H e = some (.own x)) (k : ∀ b u, b ≠ e → s.heap.get? b = some u → h'.get? b = some u) (heo : ∃ u, h'.get? e = some u)
    (new : ObjOk X.prog X.w (upd H x o) h' x o) : Inv X pins σ (upd H x o) { s with heap := h', toks := t' } := I.un (Un.write mu he k heo) (I.hok.write mu he k heo new)
theorem Inv.pins_of {pins' : List (Addr × Obj)} (I : Inv X pins σ H s) (h : ∀ p ∈ pins', s.heap.get? p.1 = some p.2 ∧ H p.1 = none ∧ p.1 ≠ X.env.locals ∧ p.1 ∉ X.fs ∧ ∀ v, p.2.data ≠ .cell v) : Inv X pins' σ H s :=
  ⟨I.ok, I.os, I.bare, I.base, I.loc, I.cell, I.free, I.freeC, fun p hp => (List.mem_append.mp hp).elim (fun z => I.pin p (List.mem_append_left _ z)) (h p), I.hok, I.len⟩
theorem nodup_ix {N : List Str} (hN : N.Nodup) {i j : Nat} {x : Str} (a : N[i]? = some x) (b : N[j]? = some x) : i = j := by
  obtain ⟨h1, e1⟩ := List.getElem?_eq_some_iff.mp a
  obtain ⟨h2, e2⟩ := List.getElem?_eq_some_iff.mp b
  exact (List.getElem_inj hN).mp (e1.trans e2.symm)
theorem store_ok2 {M : Model} {A : Around} {E : Value → Shared → Prop} {i : Nat} {x : Str} {v : V} {u : Value} {Q : Unit → Shared → Prop} (I : Inv X pins σ H s) (hN : X.N.Nodup) (hi : X.N[i]? = some x) (hx : Loc X.env.scope x) (r : RelV v u)
    (h : ∀ s', Inv X pins (σ.set i (some v)) H s' → (∃ a, Heap.SameBut a s.heap s'.heap ∧ (a = X.env.locals ∨ X.env.cells.lookup x = some a)) → Q () s') (hf : X.fn x = true ∨ X.env.scope.names.lookup x = some .local := by first | exact .inl rfl | exact .inr rfl | assumption) : wpAny M A (storeName X.env x u) Q E s := by
  obtain ⟨m, hn, hl⟩ := id I.loc
  have hcls : (X.env.scope.kind == .class || (X.env.scope.kind == .module && X.env.locals != X.env.globals)) = false := by rw [I.ok.kind]; rfl
  have hiσ : i < σ.length := by rw [I.len]; exact (List.getElem?_eq_some_iff.mp hi).1
  have cne := I.cne
  have tracked : ∀ {a : Addr} {h' : Heap}, (∃ o, s.heap.get? a = some o ∧ H a = none) → Heap.SameBut a s.heap h' → HOk X.prog X.w H h' := fun {a h'} ha hs b ob e => by
    obtain ⟨_, _, hfree⟩ := ha
    refine (I.hok b ob e).stay (fun c w' hc q => (hs.2 c ?_).trans q) (fun _ q => q) fun _ _ q => q
    rintro rfl
    rcases hc with rfl | hc
    · rw [hfree] at e; cases e
    · rw [hfree] at hc; cases hc
  rcases hx with hk | hk
  · refine wpAny_storeName_local hk hn (fun h' hn' hs => ?_) hcls
    obtain ⟨oL, _, _, hoL, _⟩ := id hn
    refine h _ ⟨I.ok, I.os, I.bare, ⟨fun b o e n hb hx => ?_, fun b o e n hb hx => ?_, I.base.free, fun b o e hx => ?_, I.base.tups, I.base.frzs, I.base.tbls⟩, ⟨_, hn', fun j y v' e1 e2 e3 => ?_⟩, fun y c e => ?_, I.free, I.freeC, fun p hp => ?_, tracked ⟨oL, hoL, I.free⟩ hs, by simpa using I.len⟩ ⟨_, hs, .inl rfl⟩
    · exact (hs.2 b (Nat.ne_of_lt (Nat.lt_of_lt_of_le (Heap.lt_size e) I.ok.above))).trans (I.base.keep b o e n hb hx)
    · obtain ⟨sl, e1⟩ := I.base.slot b o e n hb hx
      exact ⟨sl, (hs.2 b (Nat.ne_of_lt (Nat.lt_of_lt_of_le (Heap.lt_size e) I.ok.above))).trans e1⟩
    · obtain ⟨o', e1⟩ := I.base.there b o e hx
      exact ⟨o', (hs.2 b (Nat.ne_of_lt (Nat.lt_of_lt_of_le (Heap.lt_size e) I.ok.above))).trans e1⟩
    · by_cases hj : j = i
      · subst hj
        rw [hi] at e1; cases e1
        rw [List.getElem?_set_self hiσ] at e2
        cases e2
        exact ⟨u, r, .inl ⟨hk, by simp⟩⟩
      · rw [List.getElem?_set_ne (Ne.symm hj)] at e2
        obtain ⟨u', r', q⟩ := hl j y v' e1 e2 e3
        refine ⟨u', r', ?_⟩
        rcases q with ⟨k, e⟩ | ⟨k, c, e, z⟩
        · refine .inl ⟨k, ?_⟩
          have : y ≠ x := fun e => hj (nodup_ix hN e1 (e ▸ hi))
          simp [this, e]
        · exact .inr ⟨k, c, e, z.sameBut hs (cne y c e)⟩
    · obtain ⟨w', z⟩ := I.cell y c e
      exact ⟨w', z.sameBut hs (cne y c e)⟩
    · obtain ⟨e, n, ne, nf, d⟩ := I.pin p hp
      exact ⟨(hs.2 p.1 ne).trans e, n, ne, nf, d⟩
  · have hfn : X.fn x = true := by
      rcases hf with z | z
      · exact z
      · rw [z] at hk; cases hk
    obtain ⟨c, hc⟩ := I.ok.has x (.inl hk)
    obtain ⟨w', z⟩ := I.cell x c hc
    refine wpAny_storeName_cell I.ok.kind hk hc z (fun h' hc' hs => ?_)
    obtain ⟨oc, hoc, hocd⟩ := id z
    refine h { s with heap := h' } ⟨I.ok, I.os, I.bare, ⟨fun b o e n hb hx => ?_, fun b o e n hb hx => ?_, I.base.free, fun b o e hx => ?_, I.base.tups, I.base.frzs, I.base.tbls⟩, ⟨m, hn.sameBut hs (Ne.symm (cne x c hc)), fun j y v' e1 e2 e3 => ?_⟩, fun y c' e => ?_, I.free, I.freeC, fun p hp => ?_, tracked ⟨oc, hoc, I.freeC x c hc⟩ hs, by simpa using I.len⟩ ⟨c, hs, .inr hc⟩
    · exact (hs.2 b (Nat.ne_of_lt (Nat.lt_of_lt_of_le (Heap.lt_size e) (I.ok.cab x c hfn hc)))).trans (I.base.keep b o e n hb hx)
    · obtain ⟨sl, e1⟩ := I.base.slot b o e n hb hx
      exact ⟨sl, (hs.2 b (Nat.ne_of_lt (Nat.lt_of_lt_of_le (Heap.lt_size e) (I.ok.cab x c hfn hc)))).trans e1⟩
    · obtain ⟨o', e1⟩ := I.base.there b o e hx
      exact ⟨o', (hs.2 b (Nat.ne_of_lt (Nat.lt_of_lt_of_le (Heap.lt_size e) (I.ok.cab x c hfn hc)))).trans e1⟩
    · by_cases hj : j = i
      · subst hj
        rw [hi] at e1; cases e1
        rw [List.getElem?_set_self hiσ] at e2
        cases e2
        exact ⟨u, r, .inr ⟨.inl hk, c, hc, hc'⟩⟩
      · rw [List.getElem?_set_ne (Ne.symm hj)] at e2
        obtain ⟨u', r', q⟩ := hl j y v' e1 e2 e3
        refine ⟨u', r', ?_⟩
        rcases q with q | ⟨k, c', e, z'⟩
        · exact .inl q
        · refine .inr ⟨k, c', e, z'.sameBut hs ?_⟩
          rintro rfl
          exact hj (nodup_ix hN e1 (I.ok.inj _ _ _ e hc ▸ hi))
    · by_cases hcc : c' = c
      · subst hcc; exact ⟨_, hc'⟩
      · obtain ⟨w2, z2⟩ := I.cell y c' e
        exact ⟨w2, z2.sameBut hs hcc⟩
    · obtain ⟨e, n, ne, nf, d⟩ := I.pin p hp
      refine ⟨(hs.2 p.1 ?_).trans e, n, ne, nf, d⟩
      intro q
      rw [q, hoc] at e
      have q' : oc = p.2 := Option.some.inj e
      exact d w' (by rw [← q']; exact hocd)
theorem store_ok {M : Model} {A : Around} {E : Value → Shared → Prop} {i : Nat} {x : Str} {v : V} {u : Value} {Q : Unit → Shared → Prop} (I : Inv X pins σ H s) (hN : X.N.Nodup) (hi : X.N[i]? = some x) (hx : Loc X.env.scope x) (r : RelV v u)
    (h : ∀ s', Inv X pins (σ.set i (some v)) H s' → Q () s') (hf : X.fn x = true ∨ X.env.scope.names.lookup x = some .local := by first | exact .inl rfl | exact .inr rfl | assumption) : wpAny M A (storeName X.env x u) Q E s :=
  store_ok2 I hN hi hx r (fun s' I' _ => h s' I') hf
theorem Inv.call' {s' : Shared} {ch : List Addr} (I : Inv X pins σ H s) (ho : s'.os = s.os) (u : Un (frs X.stack) ch H H' s.heap s'.heap) (hok : HOk X.prog X.w H' s'.heap) (hg : AllBare s'.gens)
    (hch : ∀ b ∈ ch, (b ∈ X.ex ∨ X.s₀.heap.objs.size ≤ b) ∧ b ≠ X.env.locals ∧ (∀ x c, X.env.cells.lookup x = some c → c ≠ b) ∧ ∀ p ∈ X.pn ++ pins, p.1 ≠ b) : Inv X pins σ H' s' := by
  obtain ⟨h', g', d', t', o'⟩ := s'
  have e : o' = s.os := ho
  subst e
  exact I.call (g' := g') (t' := t') (d' := d') u hok hg hch
end
abbrev XK := Value → Option Addr → Hp → Prop
abbrev St := List (Option V)
abbrev VK := V → Hp → Prop
abbrev TE := St → Hp → VK → Prop
abbrev TT := St → Hp → (Bool → Hp → Prop) → Prop
abbrev TA := St → Hp → (List V → Hp → Prop) → Prop
structure Ends where
  nx : St → Hp → Prop
  rt : VK
  bk : St → Hp → Prop := fun _ _ => False
  ct : St → Hp → Prop := fun _ _ => False
abbrev TS := Ends → St → Hp → Prop
def EP (X : Cx) (pins : List (Addr × Obj)) (σ : St) (Q : VK) (u : Value) (s' : Shared) : Prop := ∃ v H', Inv X pins σ H' s' ∧ RelV v u ∧ Q v H'
def TP (X : Cx) (pins : List (Addr × Obj)) (σ : St) (Q : Bool → Hp → Prop) (b : Bool) (s' : Shared) : Prop := ∃ H', Inv X pins σ H' s' ∧ Q b H'
def AP (X : Cx) (pins : List (Addr × Obj)) (σ : St) (Q : List V → Hp → Prop) (us : List Value) (s' : Shared) : Prop := ∃ vs H', Inv X pins σ H' s' ∧ Vals vs us ∧ Q vs H'
def SP (X : Cx) (pins : List (Addr × Obj)) (D : Ends) (f : Flow) (s' : Shared) : Prop :=
  match f with
  | .next => ∃ σ' H', Inv X pins σ' H' s' ∧ D.nx σ' H'
  | .brk => ∃ σ' H', Inv X pins σ' H' s' ∧ D.bk σ' H'
  | .cont => ∃ σ' H', Inv X pins σ' H' s' ∧ D.ct σ' H'
  | .ret u => ∃ v σ' H', Inv X pins σ' H' s' ∧ RelV v u ∧ D.rt v H'
def PE (X : Cx) (e : Expr) (t : TE) : Prop :=
  ∀ (pins : List (Addr × Obj)) (s : Shared) (σ : St) (H : Hp) (Q : VK), Inv X pins σ H s → t σ H Q → wpAny (model X.prog X.w) X.A (eval e X.env) (EP X pins σ Q) X.xe s
def PT (X : Cx) (e : Expr) (t : TT) : Prop :=
  ∀ (pins : List (Addr × Obj)) (s : Shared) (σ : St) (H : Hp) (Q : Bool → Hp → Prop), Inv X pins σ H s → t σ H Q → wpAny (model X.prog X.w) X.A (isTrue e X.env (eval e X.env)) (TP X pins σ Q) X.xe s
def PW (X : Cx) (e : Expr) (t : TT) : Prop :=
  ∀ (whole : Sem Value) (pins : List (Addr × Obj)) (s : Shared) (σ : St) (H : Hp) (Q : Bool → Hp → Prop), Inv X pins σ H s → t σ H Q → wpAny (model X.prog X.w) X.A (isTrue e X.env whole) (TP X pins σ Q) X.xe s
theorem PW.pt {X : Cx} {e : Expr} {t : TT} (h : PW X e t) : PT X e t := h _
def PA (X : Cx) (es : List Expr) (t : TA) : Prop :=
  ∀ (pos : Pos) (pins : List (Addr × Obj)) (s : Shared) (σ : St) (H : Hp) (Q : List V → Hp → Prop), Inv X pins σ H s → t σ H Q → wpAny (model X.prog X.w) X.A (spliced (backTo pos (starEach es X.env))) (AP X pins σ Q) X.xe s
def PS (X : Cx) (st : Stmt) (t : TS) : Prop :=
  ∀ (pins : List (Addr × Obj)) (s : Shared) (σ : St) (H : Hp) (D : Ends), Inv X pins σ H s → t D σ H → wpAny (model X.prog X.w) X.A (exec st X.env) (SP X pins D) X.xe s
def PSs (X : Cx) (st : List Stmt) (t : TS) : Prop :=
  ∀ (pins : List (Addr × Obj)) (s : Shared) (σ : St) (H : Hp) (D : Ends), Inv X pins σ H s → t D σ H → wpAny (model X.prog X.w) X.A (execs st X.env) (SP X pins D) X.xe s
theorem thn {α : Type} {t : Sem α} {Q Q' : α → Shared → Prop} {M : Model} {A : Around} {E : Value → Shared → Prop} {s : Shared} (h : wpAny M A t Q E s) (hQ : ∀ a s, Q a s → Q' a s) : wpAny M A t Q' E s := wpAny_mono h hQ fun _ _ x => x
end L2
namespace L2
open PySem PySem.Spec PyProof.Rows
section
variable {X : Cx}
def tVar (i : Nat) : TE := fun σ H Q => ∃ v, σ[i]? = some (some v) ∧ Q v H
def tC (v : V) : TE := fun _ H Q => Q v H
theorem pe_var {i : Nat} {x : Str} {pos : Pos} (hN : X.N[i]? = some x) (hv : Vis X.env.scope x) (hd : (x == ("__debug__" : Str)) = false := by decide) (hcd : (x == ("__classdict__" : Str)) = false := by decide) : PE X (.Name x pos) (tVar i) := by
  intro pins s σ H Q I h
  obtain ⟨v, e, h⟩ := h
  obtain ⟨m, hn, hl⟩ := I.loc
  obtain ⟨u, r, l⟩ := hl i x v hN e hv
  have fin : EP X pins σ Q u s := ⟨v, H, I, r, h⟩
  rcases l with ⟨hk, hm⟩ | ⟨hk, c, hc, hcell⟩
  · exact wpAny_Name (wpAny_loadName_local I.ok.kind hk hn hm fin) hd
  · rcases hk with hk | hk
    · exact wpAny_Name (wpAny_loadName_cell I.ok.kind hk hc hcell fin) hd
    · exact wpAny_Name (wpAny_loadName_free I.ok.kind hk hc hcell fin hcd) hd
theorem pe_int {i j pos} : PE X (.Constant (.int i) j pos) (tC (.int i)) := fun _ _ _ H _ I h => wpAny_Constant_int ⟨.int i, H, I.tok _, ⟨_, rfl⟩, h⟩
theorem pe_bl {b j pos} : PE X (.Constant (.bool b) j pos) (tC (.bl b)) := fun _ _ _ H _ I h => Constant_bool ⟨.bl b, H, I, rfl, h⟩
theorem pe_non {j pos} : PE X (.Constant .none j pos) (tC .non) := fun _ _ _ H _ I h => Constant_none ⟨.non, H, I, rfl, h⟩
theorem pe_str {x j pos} : PE X (.Constant (.str x) j pos) (tC (.str x)) := fun _ _ _ H _ I h => Calls.Constant_str ⟨.str x, H, I.tok _, ⟨_, rfl⟩, h⟩
def Gl (X : Cx) (x : Str) : Prop := X.env.kindOf x = some .globalImplicit
theorem ld_glob {E : Value → Shared → Prop} {pins : List (Addr × Obj)} {s : Shared} {σ : St} {H : Hp} {x : Str} {u : Value} {pos : Pos} {Q : Value → Shared → Prop} (I : Inv X pins σ H s) (hg : Gl X x) (hm : X.mg x = some u) (h : Q u s)
    (hd : (x == ("__debug__" : Str)) = false := by decide) : wpAny (model X.prog X.w) X.A (eval (.Name x pos) X.env) Q E s :=
  Calls.Name_function_global I.ok.kind hg (Calls.loadGlobal_global (by rw [I.ok.glob]; exact I.mod.glob.keeps I.bk) hm h) hd
theorem ld_blt {E : Value → Shared → Prop} {pins : List (Addr × Obj)} {s : Shared} {σ : St} {H : Hp} {x : Str} {u : Value} {pos : Pos} {Q : Value → Shared → Prop} (I : Inv X pins σ H s) (hg : Gl X x) (hm : X.mg x = none) (hv : bootBuiltins x = some u) (h : Q u s)
    (hn : x ≠ "__name__" := by decide) (hd : (x == ("__debug__" : Str)) = false := by decide) : wpAny (model X.prog X.w) X.A (eval (.Name x pos) X.env) Q E s := by
  obtain ⟨mb, h1, h2⟩ := I.mod.blt
  exact Calls.Name_function_global I.ok.kind hg (Calls.loadGlobal_builtin (by rw [I.ok.glob]; exact I.mod.glob.keeps I.bk) hm (by rw [I.ok.blt]; exact h1.keeps I.bk) ((h2 x hn).trans hv) h) hd
theorem pe_glob {x : Str} {v : V} {u : Value} {pos : Pos} (hg : Gl X x) (hm : X.mg x = some u) (r : RelV v u) (hd : (x == ("__debug__" : Str)) = false := by decide) : PE X (.Name x pos) (tC v) :=
  fun _ _ _ H _ I h => ld_glob I hg hm ⟨v, H, I, r, h⟩ hd
theorem pe_bltn {x : Str} {v : V} {u : Value} {pos : Pos} (hg : Gl X x) (hm : X.mg x = none) (hv : bootBuiltins x = some u) (r : RelV v u) (hn : x ≠ "__name__" := by decide) (hd : (x == ("__debug__" : Str)) = false := by decide) : PE X (.Name x pos) (tC v) :=
  fun _ _ _ H _ I h => ld_blt I hg hm hv ⟨v, H, I, r, h⟩ hn hd
variable {a b : Expr} {ta tb : TE} {pos : Pos}
variable {tA tB' : TT} {rest : List Expr}
def tAnd (t u : TT) : TT := fun σ H Q => t σ H fun c H1 => if c = true then u σ H1 Q else Q false H1
def tOr (t u : TT) : TT := fun σ H Q => t σ H fun c H1 => if c = true then Q true H1 else u σ H1 Q
def tNot (t : TT) : TT := fun σ H Q => t σ H fun c H1 => Q (!c) H1
theorem pw_and1 (ha : PT X a tA) : PW X (.BoolOp .And [a] pos) tA := by
  intro wh pins s σ H Q I h
  refine isTrue_and (thn (ha pins s σ H Q I h) fun c s1 e => ?_)
  cases c with
  | true => exact isTrue_and_nil e
  | false => exact e
theorem pw_or1 (ha : PT X a tA) : PW X (.BoolOp .Or [a] pos) tA := by
  intro wh pins s σ H Q I h
  refine isTrue_or (thn (ha pins s σ H Q I h) fun c s1 e => ?_)
  cases c with
  | false => exact isTrue_or_nil e
  | true => exact e
theorem pw_and (ha : PT X a tA) (hb : PW X (.BoolOp .And (b :: rest) pos) tB') : PW X (.BoolOp .And (a :: b :: rest) pos) (tAnd tA tB') := by
  intro wh pins s σ H Q I h
  refine isTrue_and (thn (ha pins s σ H _ I h) fun c s1 ⟨H1, I1, q1⟩ => ?_)
  cases c with
  | true => exact hb wh pins s1 σ H1 Q I1 q1
  | false => exact ⟨H1, I1, q1⟩
theorem pw_or (ha : PT X a tA) (hb : PW X (.BoolOp .Or (b :: rest) pos) tB') : PW X (.BoolOp .Or (a :: b :: rest) pos) (tOr tA tB') := by
  intro wh pins s σ H Q I h
  refine isTrue_or (thn (ha pins s σ H _ I h) fun c s1 ⟨H1, I1, q1⟩ => ?_)
  cases c with
  | true => exact ⟨H1, I1, q1⟩
  | false => exact hb wh pins s1 σ H1 Q I1 q1
theorem pt_not (ha : PT X a tA) : PT X (.UnaryOp .Not a pos) (tNot tA) := by
  intro pins s σ H Q I h
  exact isTrue_not (ha pins s σ H (fun c H1 => Q (!c) H1) I h)
theorem pe_one {op} {t : TE} (h : PE X a t) : PE X (.BoolOp op [a] pos) t := fun pins s σ H Q I hw => BoolOp_one (h pins s σ H Q I hw)
def tIf (t : TT) (ta tb : TE) : TE := fun σ H Q => t σ H fun c H1 => if c = true then ta σ H1 Q else tb σ H1 Q
theorem pe_ifExp {c : Expr} (hc : PT X c tA) (ha : PE X a ta) (hb : PE X b tb) : PE X (.IfExp c a b pos) (tIf tA ta tb) := by
  intro pins s σ H Q I h
  refine wpAny_IfExp (thn (hc pins s σ H _ I h) fun d s1 ⟨H1, I1, q1⟩ => ?_)
  cases d with
  | true => exact ha pins s1 σ H1 Q I1 q1
  | false => exact hb pins s1 σ H1 Q I1 q1
end
end L2
namespace L2
open PySem PySem.Spec PyProof.Rows
def SqL (K : PySem.W.Frag) (H : Hp) (a : Addr) (xs : List V) : Prop :=
  Rd H a (.lst xs) ∨
    ∃ (o : Obj) (its : Array Value) (n : Nat), K.lookup a = some o ∧ o.cls = .type "list" ∧ o.dict = none ∧ o.data = .seq its n ∧ its.size ≤ sizeLine ∧ Vals xs its.toList
def SqT (K : PySem.W.Frag) (H : Hp) (a : Addr) (xs : List V) : Prop :=
  Rd H a (.tup xs) ∨
    ∃ (o : Obj) (its : Array Value) (n : Nat), K.lookup a = some o ∧ o.cls = .type "tuple" ∧ o.data = .seq its n ∧ its.size ≤ sizeLine ∧ Vals xs its.toList
def absV : Value → Option V
  | .none => some .non
  | .bool b => some (.bl b)
  | .int i _ => some (.int i)
  | .str x _ => some (.str x)
  | .bytes b _ => some (.byt b)
  | .float b _ => some (.flt b)
  | .ref a => some (.ref a)
  | .type n => some (.ty n)
  | _ => none
theorem RelV.abs {x : V} {u : Value} (r : RelV x u) : absV u = some x := by
  cases x with
  | non => cases r; rfl
  | bl _ => cases r; rfl
  | int _ => obtain ⟨t, rfl⟩ := r; rfl
  | str _ => obtain ⟨t, rfl⟩ := r; rfl
  | byt _ => obtain ⟨t, rfl⟩ := r; rfl
  | flt _ => obtain ⟨t, rfl⟩ := r; rfl
  | ref _ => cases r; rfl
  | ty _ => cases r; rfl
theorem RelV.inj {x y : V} {u : Value} (r : RelV x u) (q : RelV y u) : x = y := Option.some.inj (r.abs.symm.trans q.abs)
theorem Vals.inj : ∀ {xs ys : List V} {us : List Value}, Vals xs us → Vals ys us → xs = ys
  | _, _, _, .nil, .nil => rfl
  | _, _, _, .cons r t, .cons r' t' => by rw [r.inj r', Vals.inj t t']
section
variable {X : Cx} {pins : List (Addr × Obj)} {σ : St} {H : Hp} {s : Shared} {a : Addr} {xs ys : List V}
theorem SqL.of {K : PySem.W.Frag} (h : H a = some (.lst xs)) : SqL K H a xs := .inl (.inl h)
theorem SqT.of {K : PySem.W.Frag} (h : H a = some (.tup xs)) : SqT K H a xs := .inl (.inl h)
theorem Inv.list (I : Inv X pins σ H s) (h : SqL X.K H a xs) : ∃ its : List Value, Vals xs its ∧ PlainL s.heap a its.toArray ∧ xs.length ≤ sizeLine := by
  rcases h with h | ⟨o, its, n, hk, hc, hd, hs, hz, r⟩
  · obtain ⟨z, its, n, r, e⟩ := h.ok I.hok
    exact ⟨its, r, ⟨_, n, e, rfl, rfl, rfl⟩, z⟩
  · refine ⟨its.toList, r, ⟨o, n, I.kIn a o hk, hc, hd, by simpa using hs⟩, ?_⟩
    have e := r.length
    simp only [Array.length_toList] at e
    omega
theorem Inv.tuple (I : Inv X pins σ H s) (h : SqT X.K H a xs) : ∃ its : List Value, Vals xs its ∧ IsTup s.heap a its.toArray ∧ xs.length ≤ sizeLine := by
  rcases h with h | ⟨o, its, n, hk, hc, hs, hz, r⟩
  · obtain ⟨z, its, r, p⟩ := h.ok I.hok
    exact ⟨its, r, p, z⟩
  · refine ⟨its.toList, r, ⟨o, I.kIn a o hk, hc, n, by simpa using hs⟩, ?_⟩
    have e := r.length
    simp only [Array.length_toList] at e
    omega
theorem Inv.list_inj (I : Inv X pins σ H s) (h : SqL X.K H a xs) (h' : SqL X.K H a ys) : xs = ys := by
  obtain ⟨its, r, ⟨o, n, e, _, _, d⟩, _⟩ := I.list h
  obtain ⟨its', r', ⟨o', n', e', _, _, d'⟩, _⟩ := I.list h'
  rw [e] at e'; cases e'
  rw [d] at d'
  injection d' with d1 _
  have : its = its' := by simpa using congrArg Array.toList d1
  subst this
  exact r.inj r'
theorem Inv.tuple_inj (I : Inv X pins σ H s) (h : SqT X.K H a xs) (h' : SqT X.K H a ys) : xs = ys := by
  obtain ⟨its, r, ⟨o, e, _, n, d⟩, _⟩ := I.tuple h
  obtain ⟨its', r', ⟨o', e', _, n', d'⟩, _⟩ := I.tuple h'
  rw [e] at e'; cases e'
  rw [d] at d'
  injection d' with d1 _
  have : its = its' := by simpa using congrArg Array.toList d1
  subst this
  exact r.inj r'
end
abbrev Cx.wish (X : Cx) (E : Value → Shared → Prop) : Cx := { X with xe := E }
abbrev Cx.nox (X : Cx) : Cx := X.wish fun _ _ => False
theorem Cx.Ok.wish {X : Cx} (ok : X.Ok) (E : Value → Shared → Prop) : (X.wish E).Ok :=
  ⟨ok.mod, ok.kind, ok.glob, ok.blt, ok.above, ok.inj, ok.has, ok.cab, ok.hd, ok.frames, ok.stk, ok.exf, ok.bs, ok.bsz, ok.noex, ok.exfs, ok.funs, ok.frf⟩
theorem Cx.Ok.unwish {X : Cx} {E : Value → Shared → Prop} (ok : (X.wish E).Ok) : X.Ok :=
  ⟨ok.mod, ok.kind, ok.glob, ok.blt, ok.above, ok.inj, ok.has, ok.cab, ok.hd, ok.frames, ok.stk, ok.exf, ok.bs, ok.bsz, ok.noex, ok.exfs, ok.funs, ok.frf⟩
section
variable {X : Cx} {pins : List (Addr × Obj)} {σ : St} {H : Hp} {s : Shared} {E : Value → Shared → Prop}
theorem Inv.wish (I : Inv X pins σ H s) (E : Value → Shared → Prop) : Inv (X.wish E) pins σ H s := ⟨I.ok.wish E, I.os, I.bare, I.base, I.loc, I.cell, I.free, I.freeC, I.pin, I.hok, I.len⟩
theorem Inv.unwish (I : Inv (X.wish E) pins σ H s) : Inv X pins σ H s := ⟨I.ok.unwish, I.os, I.bare, I.base, I.loc, I.cell, I.free, I.freeC, I.pin, I.hok, I.len⟩
theorem SP.unwish {D : Ends} {f : Flow} {s' : Shared} (h : SP (X.wish E) pins D f s') : SP X pins D f s' := by
  cases f with
  | next => obtain ⟨σ', H', I, q⟩ := h; exact ⟨σ', H', I.unwish, q⟩
  | brk => obtain ⟨σ', H', I, q⟩ := h; exact ⟨σ', H', I.unwish, q⟩
  | cont => obtain ⟨σ', H', I, q⟩ := h; exact ⟨σ', H', I.unwish, q⟩
  | ret u => obtain ⟨v, σ', H', I, r, q⟩ := h; exact ⟨v, σ', H', I.unwish, r, q⟩
theorem PE.nox {e : Expr} {t : TE} (h : PE X.nox e t) : PE X e t := fun pins s σ H Q I hw =>
  wpAny_mono (h pins s σ H Q (I.wish _) hw) (fun _ _ ⟨v, H', I', r, q⟩ => ⟨v, H', I'.unwish, r, q⟩) fun _ _ z => False.elim z
theorem PT.nox {e : Expr} {t : TT} (h : PT X.nox e t) : PT X e t := fun pins s σ H Q I hw =>
  wpAny_mono (h pins s σ H Q (I.wish _) hw) (fun _ _ ⟨H', I', q⟩ => ⟨H', I'.unwish, q⟩) fun _ _ z => False.elim z
theorem PSs.nox {st : List Stmt} {t : TS} (h : PSs X.nox st t) : PSs X st t := fun pins s σ H D I hw =>
  wpAny_mono (h pins s σ H D (I.wish _) hw) (fun _ _ q => q.unwish) fun _ _ z => False.elim z
end
section
variable {X : Cx} {st : Stmt} {rest : List Stmt} {t u : TS} {e : Expr} {te : TE} {pos : Pos}
def tNext : TS := fun D σ H => D.nx σ H
def tSeq (t u : TS) : TS := fun D σ H => t { D with nx := u D } σ H
theorem pss_nil : PSs X [] tNext := fun _ _ σ H _ I h => wpAny_execs_nil ⟨σ, H, I, h⟩
theorem pss_cons (h1 : PS X st t) (h2 : PSs X rest u) : PSs X (st :: rest) (tSeq t u) := by
  intro pins s σ H D I h
  refine wpAny_execs_cons (thn (h1 pins s σ H { D with nx := u D } I h) fun f s1 q => ?_)
  cases f with
  | next =>
    obtain ⟨σ', H', I', q⟩ := q
    exact h2 pins s1 σ' H' D I' q
  | ret v => exact q
  | brk => exact q
  | cont => exact q
theorem pss_one (h1 : PS X st t) : PSs X [st] t := by
  intro pins s σ H D I h
  refine wpAny_execs_cons (thn (h1 pins s σ H D I h) fun f s1 q => ?_)
  cases f with
  | next => exact wpAny_execs_nil q
  | ret v => exact q
  | brk => exact q
  | cont => exact q
theorem Inv.quiet {pins : List (Addr × Obj)} {σ : St} {H : Hp} {s : Shared} (I : Inv X pins σ H s) : interactive X.env = false := by simp [interactive, I.ok.kind]
def tDrop (te : TE) : TS := fun D σ H => te σ H fun _ H1 => D.nx σ H1
theorem ps_expr (he : PE X e te) (hs : swapsWith e none pos.line X.env = pure false := by rfl) : PS X (.Expr e pos) (tDrop te) := by
  intro pins s σ H D I h
  exact wpAny_Expr_any (thn (he pins s σ H _ I h) fun v s1 ⟨x, H1, I1, r1, q1⟩ => ⟨σ, H1, I1, q1⟩) I.quiet hs
def tRet (te : TE) : TS := fun D σ H => te σ H D.rt
theorem ps_ret (he : PE X e te) : PS X (.Return (some e) pos) (tRet te) := by
  intro pins s σ H D I h
  exact wpAny_Return_some (thn (he pins s σ H _ I h) fun v s1 ⟨x, H1, I1, r1, q1⟩ => ⟨x, σ, H1, I1, r1, q1⟩)
def tIfS (c : TT) (t u : TS) : TS := fun D σ H => c σ H fun b H1 => if b = true then t D σ H1 else u D σ H1
theorem ps_if {c : Expr} {a b : List Stmt} {tc : TT} (hc : PT X c tc) (ha : PSs X a t) (hb : PSs X b u) : PS X (.If c a b pos) (tIfS tc t u) := by
  intro pins s σ H D I h
  refine wpAny_If (thn (hc pins s σ H _ I h) fun d s1 ⟨H1, I1, q1⟩ => ?_)
  cases d with
  | true => exact ha pins s1 σ H1 D I1 q1
  | false => exact hb pins s1 σ H1 D I1 q1
end
abbrev TG := V → St → Hp → (St → Hp → Prop) → Prop
abbrev TGs := List V → St → Hp → (St → Hp → Prop) → Prop
def PG (X : Cx) (target : Expr) (t : TG) : Prop :=
  ∀ (pins : List (Addr × Obj)) (s : Shared) (σ : St) (H : Hp) (v : V) (u : Value) (Q : St → Hp → Prop), Inv X pins σ H s → RelV v u → t v σ H Q →
    wpAny (model X.prog X.w) X.A (assign target X.env u) (fun _ s' => ∃ σ' H', Inv X pins σ' H' s' ∧ Q σ' H') X.xe s
def PGs (X : Cx) (ts : List Expr) (t : TGs) : Prop :=
  ∀ (pins : List (Addr × Obj)) (s : Shared) (σ : St) (H : Hp) (vs : List V) (us : List Value) (Q : St → Hp → Prop), Inv X pins σ H s → Vals vs us → t vs σ H Q →
    wpAny (model X.prog X.w) X.A (assignInOrder ((assignEach ts X.env).map (·.2)) us) (fun _ s' => ∃ σ' H', Inv X pins σ' H' s' ∧ Q σ' H') X.xe s
abbrev TSet := V → V → V → Hp → (Hp → Prop) → Prop
def PSet (X : Cx) (t : TSet) : Prop :=
  ∀ (pins : List (Addr × Obj)) (s : Shared) (σ : St) (H : Hp) (o i v : V) (ov iv u : Value) (Q : Hp → Prop), Inv X pins σ H s → RelV o ov → RelV i iv → RelV v u → t o i v H Q →
    wpAny (model X.prog X.w) X.A (setItem ov iv u) (fun _ s' => ∃ H', Inv X pins σ H' s' ∧ Q H') X.xe s
abbrev TIp := V → V → Hp → VK → Prop
def PIp (X : Cx) (op : Operator) (t : TIp) : Prop :=
  ∀ (pins : List (Addr × Obj)) (s : Shared) (σ : St) (H : Hp) (x y : V) (v u : Value) (Q : VK), Inv X pins σ H s → RelV x v → RelV y u → t x y H Q →
    wpAny (model X.prog X.w) X.A (inplaceOp op v u) (EP X pins σ Q) X.xe s
section
variable {X : Cx} {pos : Pos}
def gName (i : Nat) : TG := fun v σ H Q => Q (σ.set i (some v)) H
theorem pg_name {i : Nat} {x : Str} (hN : X.N.Nodup) (hi : X.N[i]? = some x) (hx : Loc X.env.scope x) (hf : X.fn x = true ∨ X.env.scope.names.lookup x = some .local := by first | exact .inl rfl | exact .inr rfl | assumption) : PG X (.Name x pos) (gName i) := by
  intro pins s σ H v u Q I r h
  exact wpAny_assign_Name (store_ok I hN hi hx r (fun s' I' => ⟨_, H, I', h⟩) hf)
def gNil : TGs := fun vs σ H Q => vs = [] ∧ Q σ H
def gCons (t : TG) (u : TGs) : TGs := fun vs σ H Q => ∃ v r, vs = v :: r ∧ t v σ H fun σ' H' => u r σ' H' Q
theorem pgs_nil : PGs X [] gNil := by
  intro pins s σ H vs us Q I r h
  obtain ⟨e, h⟩ := h
  subst e
  cases r
  exact assignInOrder_nil ⟨σ, H, I, h⟩
theorem pgs_cons {e : Expr} {es : List Expr} {t : TG} {u : TGs} (h1 : PG X e t) (h2 : PGs X es u)
    (hs : (assignEach (e :: es) X.env).map (·.2) = assign e X.env :: (assignEach es X.env).map (·.2) := by rfl) : PGs X (e :: es) (gCons t u) := by
  intro pins s σ H vs us Q I r h
  obtain ⟨v, vr, e1, h⟩ := h
  subst e1
  cases r with
  | cons r rr =>
    rw [hs]
    refine assignInOrder_cons (thn (h1 pins s σ H _ _ _ I r h) fun _ s1 ⟨σ1, H1, I1, q1⟩ => ?_)
    exact h2 pins s1 σ1 H1 _ _ Q I1 rr q1
def gTup (K : PySem.W.Frag) (n : Nat) (t : TGs) : TG := fun v σ H Q => ∃ a xs, v = .ref a ∧ SqT K H a xs ∧ xs.length = n ∧ t xs σ H Q
theorem pg_tup {es : List Expr} {k : Nat} {t : TGs} {n : Nat} (hc : X.calm = true) (h : PGs X es t)
    (hn : (assignEach es X.env).length = n := by rfl) (hst : (assignEach es X.env).findIdx? (·.1) = none := by rfl) : PG X (.Tuple es k pos) (gTup X.K n t) := by
  intro pins s σ H v u Q I r hw
  obtain ⟨a, xs, e1, hq, hl, hw⟩ := hw
  subst e1
  cases r
  obtain ⟨its, rv, ht, hz⟩ := I.tuple hq
  refine assign_Tuple_tuple (I.ok.hd hc) ht (by simp [hn, ← hl, rv.length]) hst fun h' hx => ?_
  have I1 : Inv X pins σ H { s with heap := h' } := I.kept (t' := s.toks) fun b o e => hx b o (Nat.ne_of_lt (Heap.lt_size e)) e
  exact h pins _ σ H xs _ Q I1 (by simpa using rv) hw
def gSub (to ti : TE) (t : TSet) : TG := fun v σ H Q => to σ H fun o H1 => ti σ H1 fun i H2 => t o i v H2 fun H3 => Q σ H3
theorem pg_sub {o i : Expr} {to ti : TE} {t : TSet} (ho : PE X o to) (hi : PE X i ti) (hs : PSet X t)
    (ha : ∀ v, assign (.Subscript o i pos) X.env v = (do
      let ov ← holding [v] (eval o X.env)
      let iv ← holding [v, ov] (eval i X.env)
      standAt pos
      holding [v, ov, iv] (setItem ov iv v)
      release [v, ov, iv] []) := by intro _; rfl) : PG X (.Subscript o i pos) (gSub to ti t) := by
  intro pins s σ H v u Q I r h
  rw [ha]
  refine wpAny_bind (wpAny_holding (thn (ho pins s σ H _ I h) fun ov s1 ⟨x, H1, I1, r1, q1⟩ => ?_))
  refine wpAny_bind (wpAny_holding (thn (hi pins s1 σ H1 _ I1 q1) fun iv s2 ⟨y, H2, I2, r2, q2⟩ => ?_))
  refine wpAny_bind (wpAny_standAt (wpAny_bind (wpAny_holding (thn (hs pins s2 σ H2 x y v ov iv u _ I2 r1 r2 r q2) fun _ s3 ⟨H3, I3, q3⟩ => ?_))))
  exact wpAny_release ⟨σ, H3, I3, q3⟩
def tAsg (te : TE) (g : TG) : TS := fun D σ H => te σ H fun x H1 => g x σ H1 D.nx
theorem ps_asg {tg e : Expr} {te : TE} {g : TG} (he : PE X e te) (hg : PG X tg g) (hs : swapsWithSole [tg] e pos.line X.env = pure false := by rfl) (hw : swappedStores [tg] e X.env = pure none := by rfl)
    (h1 : (assignEach [tg] X.env).map (·.2) = [assign tg X.env] := by rfl) : PS X (.Assign [tg] e pos) (tAsg te g) := by
  intro pins s σ H D I h
  refine wpAny_Assign_stores (thn (he pins s σ H _ I h) fun v s1 ⟨x, H1, I1, r1, q1⟩ => ?_) hs hw
  rw [h1]
  exact thn (hg pins s1 σ H1 x v _ I1 r1 q1) fun _ s2 q => q
theorem ps_set {i : Nat} {x : Str} {e : Expr} {te : TE} {pos' : Pos} (hN : X.N.Nodup) (hi : X.N[i]? = some x) (hx : Loc X.env.scope x) (he : PE X e te) (hs : swapsWith e (some (.Name x pos')) pos.line X.env = pure false := by rfl) (hf : X.fn x = true ∨ X.env.scope.names.lookup x = some .local := by first | exact .inl rfl | exact .inr rfl | assumption) :
    PS X (.Assign [.Name x pos'] e pos) (tAsg te (gName i)) := by
  intro pins s σ H D I h
  refine wpAny_Assign_Name (thn (he pins s σ H _ I h) fun v s1 ⟨y, H1, I1, r1, q1⟩ => ?_) hs
  exact store_ok I1 hN hi hx r1 (fun s2 I2 => ⟨_, H1, I2, q1⟩) hf
end
section
variable {X : Cx} {pos : Pos}
def tWhile (c : TT) (tb : TS) : TS := fun D σ H => ∃ W : Nat → St → Hp → Prop, (∃ m, W m σ H) ∧ ∀ m σ H, W m σ H →
  c σ H fun b H1 => if b = true then ∃ N : St → Hp → Prop, (∀ σ' H', N σ' H' → ∃ m', m' < m ∧ W m' σ' H') ∧ tb { D with nx := N, ct := N, bk := D.nx } σ H1 else D.nx σ H1
theorem ps_while {c : Expr} {body : List Stmt} {tc : TT} {tb : TS} (hp : PassesOwn (model X.prog X.w) X.A X.env X.xe) (hc : PT X c tc) (hb : PSs X body tb) : PS X (.While c body [] pos) (tWhile tc tb) := by
  intro pins s σ H D I h
  obtain ⟨W, ⟨m0, w0⟩, turn⟩ := h
  refine wpAny_While (codeAny_whileLoop (fun n s' => ∃ σ' H', Inv X pins σ' H' s' ∧ W n σ' H') ?_ m0 ⟨σ, H, I, w0⟩)
  rintro n s1 ⟨σ1, H1, I1, w1⟩
  refine wpAny_passesOwn hp (thn (hc pins s1 σ1 H1 _ I1 (turn n σ1 H1 w1)) fun b s2 ⟨H2, I2, q2⟩ => ?_)
  cases b with
  | true =>
    obtain ⟨N, hN, q2⟩ := q2
    rw [if_pos rfl]
    refine wpAny_passesOwn hp (thn (hb pins s2 σ1 H2 _ I2 q2) fun f s3 q3 => ?_)
    cases f with
    | next =>
      obtain ⟨σ3, H3, I3, n3⟩ := q3
      obtain ⟨m', hm, w3⟩ := hN σ3 H3 n3
      exact ⟨m', hm, σ3, H3, I3, w3⟩
    | cont =>
      obtain ⟨σ3, H3, I3, n3⟩ := q3
      obtain ⟨m', hm, w3⟩ := hN σ3 H3 n3
      exact ⟨m', hm, σ3, H3, I3, w3⟩
    | brk => exact q3
    | ret v => exact q3
  | false =>
    rw [if_neg Bool.false_ne_true]
    exact wpAny_execs_nil ⟨σ1, H2, I2, q2⟩
end
structure It where
  go : Nat → Hp → Prop
  yld : Nat → Hp → V → Hp → Prop
  stop : Nat → Hp → Prop
def FpOk (X : Cx) (pins : List (Addr × Obj)) (H : Hp) (b : Addr) : Prop :=
  H b = none ∧ b ≠ X.env.locals ∧ b ∉ X.fs ∧ (b ∈ X.ex ∨ X.s₀.heap.objs.size ≤ b) ∧ (∀ x c, X.env.cells.lookup x = some c → c ≠ b) ∧ ∀ p ∈ X.pn ++ pins, p.1 ≠ b
theorem Inv.fpOk {X : Cx} {pins : List (Addr × Obj)} {σ : St} {H H' : Hp} {s : Shared} {b : Addr} (I : Inv X pins σ H s) (hb : s.heap.objs.size ≤ b) (hn : H' b = none) : FpOk X pins H' b := by
  refine ⟨hn, Nat.ne_of_gt (Nat.lt_of_lt_of_le I.lt hb), I.nofs hb, .inr (Nat.le_trans I.sz hb), fun x c e z => ?_, fun p hp z => ?_⟩
  · obtain ⟨v, q⟩ := I.cell x c e
    exact absurd (Nat.lt_of_lt_of_le q.lt (by rw [z]; exact hb)) (Nat.lt_irrefl _)
  · exact absurd (Nat.lt_of_lt_of_le (Heap.lt_size (I.pin p hp).1) (by rw [z]; exact hb)) (Nat.lt_irrefl _)
structure Turn (P : Program) (w : World) (K : PySem.W.Frag) (tg : Expr) (J : It) (fp : List Addr) (it : Addr) (tn : Nat → Heap → Prop) : Prop where
  mem : it ∈ fp
  obj : ∀ i h, tn i h → ∀ b ∈ fp, ∃ o, h.get? b = some o ∧ ∀ v, o.data ≠ .cell v
  keep : ∀ i h h', tn i h → (∀ b ∈ fp, ∀ o, h.get? b = some o → h'.get? b = some o) → tn i h'
  item : ∀ (X : Cx), X.prog = P → X.w = w → X.K = K → X.calm = true → ∀ (i : Nat) (pins : List (Addr × Obj)) (s : Shared) (σ : St) (H : Hp) (E : Value → Shared → Prop), Inv X pins σ H s → (∀ b ∈ fp, FpOk X pins H b) → tn i s.heap → J.go i H →
    wpAny (model P w) X.A (pyNext (.ref it)) (fun r s1 => ∃ u, r = some u ∧
      wpAny (model P w) X.A (letOwnedTupleGo tg (.ref it) u) (fun _ s2 => ∃ x H', Inv X pins σ H' s2 ∧ RelV x u ∧ J.yld i H x H' ∧ tn (i + 1) s2.heap ∧ ∀ b ∈ fp, H' b = none) E s1) E s
  done : ∀ (X : Cx), X.prog = P → X.w = w → X.K = K → X.calm = true → ∀ (i : Nat) (pins : List (Addr × Obj)) (s : Shared) (σ : St) (H : Hp) (E : Value → Shared → Prop), Inv X pins σ H s → (∀ b ∈ fp, FpOk X pins H b) → tn i s.heap → J.stop i H →
    wpAny (model P w) X.A (pyNext (.ref it)) (fun r s1 => r = none ∧ Inv X pins σ H s1) E s
  self : ∀ (A : Around) (i : Nat) (s : Shared) (Q : Value → Shared → Prop) (E : Value → Shared → Prop), tn i s.heap → Q (.ref it) s → wpAny (model P w) A (pyIter (.ref it)) Q E s
abbrev TI := St → Hp → (It → Hp → Prop) → Prop
def PIE (X : Cx) (pins : List (Addr × Obj)) (σ : St) (tg : Expr) (R : It → Hp → Prop) (itv : Value) (s2 : Shared) : Prop :=
  ∃ (it : Addr) (fp : List Addr) (tn : Nat → Heap → Prop) (J : It) (H' : Hp), itv = .ref it ∧ Inv X pins σ H' s2 ∧ Turn X.prog X.w X.K tg J fp it tn ∧ tn 0 s2.heap ∧ (∀ b ∈ fp, FpOk X pins H' b) ∧ R J H'
def PI (X : Cx) (tg iter : Expr) (wi : TI) : Prop :=
  ∀ (pins : List (Addr × Obj)) (s : Shared) (σ : St) (H : Hp) (R : It → Hp → Prop), Inv X pins σ H s → wi σ H R →
    wpAny (model X.prog X.w) X.A (eval iter X.env) (fun v s1 => wpAny (model X.prog X.w) X.A (pyIter v) (PIE X pins σ tg R) X.xe s1) X.xe s
theorem go_of {M : Model} {A : Around} {E : Value → Shared → Prop} {s : Shared} {tg : Expr} {it : Addr} {u : Value} {o : Obj} {n : String} {vs : Array Value} {Q : Unit → Shared → Prop} (ho : s.heap.get? it = some o) (hc : o.cls = .type n) (hd : o.data = .fields vs)
    (hn : ["enumerate", "zip", "dict_itemiterator", "dict_reverseitemiterator", "odict_iterator", "itertools.zip_longest", "itertools.pairwise"].contains n = false) (hQ : Q () s) : wpAny M A (letOwnedTupleGo tg (.ref it) u) Q E s := by
  unfold letOwnedTupleGo
  cases tg <;> first
    | exact wpAny_pure hQ
    | (cases u <;> first
        | exact wpAny_pure hQ
        | (refine wpAny_bind (wpAny_load ho ?_)
           rw [hc, hd]
           show wpAny M A (if (["enumerate", "zip", "dict_itemiterator", "dict_reverseitemiterator", "odict_iterator", "itertools.zip_longest", "itertools.pairwise"].contains n && vs[0]? == some (rawInt _)) = true then _ else _) Q E s
           rw [if_neg (by intro h; rw [hn, Bool.false_and] at h; cases h)]
           exact wpAny_pure hQ))
def Itl (K : PySem.W.Frag) (a : Addr) : It :=
  ⟨fun i H => ∃ xs x, SqL K H a xs ∧ xs[i]? = some x, fun i H x H' => H' = H ∧ ∀ xs, SqL K H a xs → xs[i]? = some x, fun i H => ∃ xs, SqL K H a xs ∧ xs.length ≤ i⟩
def Itt (K : PySem.W.Frag) (a : Addr) : It :=
  ⟨fun i H => ∃ xs x, SqT K H a xs ∧ xs[i]? = some x, fun i H x H' => H' = H ∧ ∀ xs, SqT K H a xs → xs[i]? = some x, fun i H => ∃ xs, SqT K H a xs ∧ xs.length ≤ i⟩
def Itr (lo : Int) (n : Nat) : It := ⟨fun i _ => i < n, fun i H x H' => H' = H ∧ x = .int (lo + i), fun i _ => n ≤ i⟩
theorem turn_list {P : Program} {w : World} {K : PySem.W.Frag} {tg : Expr} (a it : Addr) : Turn P w K tg (Itl K a) [it] it (fun i h => h.IsListIter it a i) where
  mem := by simp
  obj := fun i h st b hb => by
    have e : b = it := by simpa using hb
    subst e
    obtain ⟨o, e, c, d⟩ := st
    exact ⟨o, e, fun v z => by rw [d] at z; cases z⟩
  keep := fun i h h' st k => st.at fun o e => k it (by simp) o e
  item := by
    intro X hP hw hK hc i pins s σ H E I hf st hg
    subst hP hw hK
    obtain ⟨xs, x, hq, hx⟩ := hg
    obtain ⟨its, rv, p, hz⟩ := I.list hq
    obtain ⟨u, hu, ru⟩ := rv.get hx
    obtain ⟨f0, f1, f2, f3, f4, f5⟩ := hf it (by simp)
    refine wpAny_pyNext_list_item st p.isList (x := u) (by simpa using hu) fun h' st' sb => ?_
    have I1 : Inv X pins σ H { s with heap := h' } := I.turned (t' := s.toks) (fun b o hb e => (sb.2 b hb).trans e) f0 f1 f3 f4 f5
    obtain ⟨o, e, c, d⟩ := id st'
    exact ⟨u, rfl, go_of (s := { s with heap := h' }) e c d (by decide) ⟨x, H, I1, ru, ⟨rfl, fun ys hy => by rw [I.list_inj hy hq]; exact hx⟩, st', fun b hb => (hf b hb).1⟩⟩
  done := by
    intro X hP hw hK hc i pins s σ H E I hf st hg
    subst hP hw hK
    obtain ⟨xs, hq, hx⟩ := hg
    obtain ⟨its, rv, p, hz⟩ := I.list hq
    obtain ⟨f0, f1, f2, f3, f4, f5⟩ := hf it (by simp)
    have hl := rv.length
    exact wpAny_pyNext_list_end (I.ok.hd hc) st p.isList (by simp; omega) fun h' eb => ⟨rfl, I.turned (t' := s.toks) (fun b o hb e => eb b o hb e) f0 f1 f3 f4 f5⟩
  self := fun _ _ _ _ _ st h => wpAny_pyIter_listiter st h
theorem turn_tuple {P : Program} {w : World} {K : PySem.W.Frag} {tg : Expr} (a it : Addr) : Turn P w K tg (Itt K a) [it] it (fun i h => h.IsTupleIter it a i) where
  mem := by simp
  obj := fun i h st b hb => by
    have e : b = it := by simpa using hb
    subst e
    obtain ⟨o, e, c, d⟩ := st
    exact ⟨o, e, fun v z => by rw [d] at z; cases z⟩
  keep := fun i h h' st k => st.at fun o e => k it (by simp) o e
  item := by
    intro X hP hw hK hc i pins s σ H E I hf st hg
    subst hP hw hK
    obtain ⟨xs, x, hq, hx⟩ := hg
    obtain ⟨its, rv, p, hz⟩ := I.tuple hq
    obtain ⟨u, hu, ru⟩ := rv.get hx
    obtain ⟨f0, f1, f2, f3, f4, f5⟩ := hf it (by simp)
    refine wpAny_pyNext_tuple_item st (show s.heap.IsTuple a its.toArray from p) (x := u) (by simpa using hu) fun h' st' sb => ?_
    have I1 : Inv X pins σ H { s with heap := h' } := I.turned (t' := s.toks) (fun b o hb e => (sb.2 b hb).trans e) f0 f1 f3 f4 f5
    obtain ⟨o, e, c, d⟩ := id st'
    exact ⟨u, rfl, go_of (s := { s with heap := h' }) e c d (by decide) ⟨x, H, I1, ru, ⟨rfl, fun ys hy => by rw [I.tuple_inj hy hq]; exact hx⟩, st', fun b hb => (hf b hb).1⟩⟩
  done := by
    intro X hP hw hK hc i pins s σ H E I hf st hg
    subst hP hw hK
    obtain ⟨xs, hq, hx⟩ := hg
    obtain ⟨its, rv, p, hz⟩ := I.tuple hq
    obtain ⟨f0, f1, f2, f3, f4, f5⟩ := hf it (by simp)
    have hl := rv.length
    exact wpAny_pyNext_tuple_end (I.ok.hd hc) st (show s.heap.IsTuple a its.toArray from p) (by simp; omega) fun h' eb => ⟨rfl, I.turned (t' := s.toks) (fun b o hb e => eb b o hb e) f0 f1 f3 f4 f5⟩
  self := fun _ _ _ _ _ st h => wpAny_pyIter_tupleiter st h
theorem turn_range {P : Program} {w : World} {K : PySem.W.Frag} {tg : Expr} (it : Addr) (lo : Int) (n : Nat) : Turn P w K tg (Itr lo n) [it] it (fun i h => IsRangeIter h it (lo + (i : Nat) * 1) ((n : Int) - (i : Nat)) 1) where
  mem := by simp
  obj := fun i h st b hb => by
    have e : b = it := by simpa using hb
    subst e
    exact ⟨_, st, fun v z => by
      have z' : Data.fields _ = Data.cell v := z
      cases z'⟩
  keep := fun i h h' st k => k it (by simp) _ st
  item := by
    intro X hP hw hK hc i pins s σ H E I hf st hg
    subst hP hw hK
    obtain ⟨f0, f1, f2, f3, f4, f5⟩ := hf it (by simp)
    have W := Walks.range (prog := X.prog) (w := X.w) (I.ok.hd hc) it lo 1 n
    refine W.item i s _ _ hg st fun v h' tk hv st' kk => ?_
    obtain ⟨t, rfl⟩ := hv
    have I1 : Inv X pins σ H { s with heap := h', toks := tk } := I.turned (fun b o hb e => kk b o (by simpa using hb) e) f0 f1 f3 f4 f5
    refine ⟨_, rfl, go_of (s := { s with heap := h', toks := tk }) (n := "range_iterator") st' rfl rfl (by decide) ⟨.int (lo + i), H, I1, ⟨t, ?_⟩, ⟨rfl, rfl⟩, st', fun b hb => (hf b hb).1⟩⟩
    rw [Int.mul_one]
  done := by
    intro X hP hw hK hc i pins s σ H E I hf st hg
    subst hP hw hK
    obtain ⟨f0, f1, f2, f3, f4, f5⟩ := hf it (by simp)
    exact wpAny_pyNext_range_end (I.ok.hd hc) st (by have : n ≤ i := hg; omega) fun h' eb => ⟨rfl, I.turned (t' := s.toks) (fun b o hb e => eb b o hb e) f0 f1 f3 f4 f5⟩
  self := fun _ _ _ _ _ st h => wpAny_pyIter_rangeiter st h
end L2
namespace L2
open PySem PySem.Spec PyProof.Rows
section
variable {X : Cx} {tg : Expr}
theorem range_it {pins : List (Addr × Obj)} {σ : St} {H : Hp} {s : Shared} {R : It → Hp → Prop} {E : Value → Shared → Prop} {lo hi : Int} {t u v : Tok} {tk : Nat} (I : Inv X pins σ H s) (h1 : -(2 ^ 62) ≤ lo) (h2 : lo < 2 ^ 62) (h3 : -(2 ^ 62) ≤ hi) (h4 : hi < 2 ^ 62)
    (q : R (Itr lo (hi - lo).toNat) H) : wpAny (model X.prog X.w) X.A (pyIter (.ref s.heap.objs.size)) (PIE X pins σ tg R) E { s with heap := s.heap.push { cls := .type "range", data := .fields #[.int lo t, .int hi u, .int 1 v] }, toks := tk } := by
  refine wpAny_pyIter_range (IsRange.new ..) (small_one h1 h2 h3 h4) ?_
  have I1 : Inv X pins σ H { s with heap := s.heap.push { cls := .type "range", data := .fields #[.int lo t, .int hi u, .int 1 v] }, toks := tk } := I.kept fun b o e => Heap.get?_push_of_some _ e
  refine ⟨(s.heap.push { cls := .type "range", data := .fields #[.int lo t, .int hi u, .int 1 v] }).objs.size, [(s.heap.push { cls := .type "range", data := .fields #[.int lo t, .int hi u, .int 1 v] }).objs.size], _, _, H, rfl,
    I1.kept (t' := tk) fun b o e => Heap.get?_push_of_some _ e, turn_range _ lo (hi - lo).toNat, ?_, fun b hb => ?_, q⟩
  · have e1 : lo + ((0 : Nat) : Int) * 1 = lo := by simp
    have e2 : (((hi - lo).toNat : Nat) : Int) - ((0 : Nat) : Int) = Builtin.Range.rangeSize lo hi 1 := by rw [rangeSize_one]; split <;> omega
    show IsRangeIter _ _ (lo + ((0 : Nat) : Int) * 1) ((((hi - lo).toNat : Nat) : Int) - ((0 : Nat) : Int)) 1
    rw [e1, e2]
    exact Heap.get?_push_size _ rfl
  · have e : b = (s.heap.push { cls := .type "range", data := .fields #[.int lo t, .int hi u, .int 1 v] }).objs.size := by simpa using hb
    subst e
    exact I1.fpOk (Nat.le_refl _) (I1.hok.fresh (Nat.le_refl _))
def iRng1 (ta : TA) : TI := fun σ H R => ta σ H fun vs H1 => ∃ j : Int, vs = [.int j] ∧ -(2 ^ 62) ≤ j ∧ j < 2 ^ 62 ∧ R (Itr 0 j.toNat) H1
theorem pi_range1 {a : Expr} {ta : TA} {p pos : Pos} (hg : Gl X "range") (hm : X.mg "range" = none) (ha : PA X [a] ta) (hs : starEach [a] X.env = [(false, eval a X.env)] := by rfl) : PI X tg (.Call (.Name "range" p) [a] [] pos) (iRng1 ta) := by
  intro pins s σ H R I h
  refine Call_ (ld_blt I hg hm boot_range (PyProof.Rows.callWith_type1 (thn (ha pos pins s σ H _ I h) fun us s1 ⟨vs, H1, I1, r1, q1⟩ => ?_) hs rfl))
  obtain ⟨j, e, q1, q2, q⟩ := q1
  subst e
  cases r1 with
  | cons r rr =>
    cases rr
    obtain ⟨t, rfl⟩ := r
    exact call_range_1 (range_it I1 (by omega) (by omega) q1 q2 (by simpa using q))
def tFor (wi : TI) (g : TG) (tb : TS) : TS := fun D σ H => wi σ H fun J H1 => ∃ W : Nat → Nat → St → Hp → Prop, (∃ m, W 0 m σ H1) ∧ ∀ i m σ H, W i m σ H →
  (J.stop i H ∧ D.nx σ H) ∨ (J.go i H ∧ ∃ N : St → Hp → Prop, (∀ σ' H', N σ' H' → ∃ m', m' < m ∧ W (i + 1) m' σ' H') ∧ ∀ x H', J.yld i H x H' → g x σ H' fun σ2 H2 => tb { D with nx := N, ct := N, bk := D.nx } σ2 H2)
def pinsAt (fp : List Addr) (h : Heap) : List (Addr × Obj) := fp.filterMap fun b => (h.get? b).map fun o => (b, o)
theorem mem_pinsAt {fp : List Addr} {h : Heap} {b : Addr} {o : Obj} (hb : b ∈ fp) (e : h.get? b = some o) : (b, o) ∈ pinsAt fp h := List.mem_filterMap.mpr ⟨b, hb, by rw [e]; rfl⟩
theorem of_pinsAt {fp : List Addr} {h : Heap} {p : Addr × Obj} (hp : p ∈ pinsAt fp h) : p.1 ∈ fp ∧ h.get? p.1 = some p.2 := by
  obtain ⟨b, hb, e⟩ := List.mem_filterMap.mp hp
  cases q : h.get? b with
  | none => rw [q] at e; cases e
  | some o =>
    rw [q] at e
    have e' : (b, o) = p := Option.some.inj e
    subst e'
    exact ⟨hb, q⟩
theorem Inv.pinned {pins : List (Addr × Obj)} {σ : St} {H : Hp} {s : Shared} {fp : List Addr} (I : Inv X pins σ H s) (hf : ∀ b ∈ fp, FpOk X pins H b) (ho : ∀ b ∈ fp, ∃ o, s.heap.get? b = some o ∧ ∀ v, o.data ≠ .cell v) : Inv X (pins ++ pinsAt fp s.heap) σ H s :=
  I.pins_of fun p hp => (List.mem_append.mp hp).elim (fun z => I.pin p (List.mem_append_right _ z)) fun z => by
    obtain ⟨hb, e⟩ := of_pinsAt z
    obtain ⟨f0, f1, f2, _⟩ := hf p.1 hb
    obtain ⟨o, e', d⟩ := ho p.1 hb
    rw [e] at e'; cases e'
    exact ⟨e, f0, f1, f2, d⟩
theorem Inv.unpinned {pins pl : List (Addr × Obj)} {σ : St} {H : Hp} {s : Shared} (I : Inv X (pins ++ pl) σ H s) : Inv X pins σ H s := I.pins_of fun p hp => I.pin p (List.mem_append_right _ (List.mem_append_left _ hp))
theorem ps_for {iter : Expr} {body : List Stmt} {wi : TI} {g : TG} {tb : TS} {pos : Pos} (hp : PassesOwn (model X.prog X.w) X.A X.env X.xe) (hc : X.calm = true) (hi : PI X tg iter wi) (hg : PG X tg g) (hb : PSs X body tb)
    (hs : ∀ x, foldedSetIterable iter X.env x = pure x := by intro _; rfl) : PS X (.For tg iter body [] pos) (tFor wi g tb) := by
  intro pins s σ H D I h
  refine wpAny_For (thn (hi pins s σ H _ I h) fun v s1 h1 => thn h1 fun itv s2 h2 => ?_) hs
  obtain ⟨it, fp, tn, J, H2, e, I2, T, st2, f2, W, ⟨m0, w0⟩, turn⟩ := h2
  subst e
  -- what stays true of the iterator's objects through the loop
  have stat : ∀ {H' : Hp}, (∀ b ∈ fp, H' b = none) → ∀ b ∈ fp, FpOk X pins H' b := fun hn b hb => ⟨hn b hb, (f2 b hb).2⟩
  refine codeAny_forLoop_any (fun n s' => ∃ i σ' H', Inv X pins σ' H' s' ∧ tn i s'.heap ∧ (∀ b ∈ fp, H' b = none) ∧ W i n σ' H') ?_ m0 ⟨0, σ, H2, I2, st2, fun b hb => (f2 b hb).1, w0⟩
  rintro n s3 ⟨i, σ3, H3, I3, st3, fr3, w3⟩
  rcases turn i n σ3 H3 w3 with ⟨stop, qn⟩ | ⟨go, N, hN, step⟩
  · refine wpAny_passesOwn hp (thn (T.done X rfl rfl rfl hc i pins s3 σ3 H3 X.xe I3 (stat fr3) st3 stop) fun r s4 ⟨hr, I4⟩ => ?_)
    subst hr
    exact wpAny_execs_nil ⟨σ3, H3, I4, qn⟩
  · refine wpAny_passesOwn hp (thn (T.item X rfl rfl rfl hc i pins s3 σ3 H3 X.xe I3 (stat fr3) st3 go) fun r s4 ⟨u, hr, h4⟩ => ?_)
    subst hr
    refine wpAny_passesOwn hp (thn h4 fun _ s5 ⟨x, H5, I5, r5, y5, st5, fr5⟩ => ?_)
    have I5' := I5.pinned (stat fr5) (T.obj _ _ st5)
    refine wpAny_passesOwn hp (thn (hg _ s5 σ3 H5 x u _ I5' r5 (step x H5 y5)) fun _ s6 ⟨σ6, H6, I6, q6⟩ => ?_)
    refine wpAny_passesOwn hp (thn (hb _ s6 σ6 H6 _ I6 q6) fun f s7 q7 => ?_)
    have again : ∀ {σ7 : St} {H7 : Hp}, Inv X (pins ++ pinsAt fp s5.heap) σ7 H7 s7 → N σ7 H7 → ∃ m, m < n ∧ ∃ i σ' H', Inv X pins σ' H' s7 ∧ tn i s7.heap ∧ (∀ b ∈ fp, H' b = none) ∧ W i m σ' H' := fun {σ7 H7} I7 n7 => by
      obtain ⟨m', hm, w7⟩ := hN σ7 H7 n7
      refine ⟨m', hm, i + 1, σ7, H7, I7.unpinned, T.keep _ _ _ st5 fun b hb o e => (I7.pin (b, o) (List.mem_append_right _ (List.mem_append_right _ (mem_pinsAt hb e)))).1, fun b hb => ?_, w7⟩
      obtain ⟨o, e, d⟩ := T.obj _ _ st5 b hb
      exact (I7.pin (b, o) (List.mem_append_right _ (List.mem_append_right _ (mem_pinsAt hb e)))).2.1
    cases f with
    | next => obtain ⟨σ7, H7, I7, n7⟩ := q7; exact again I7 n7
    | cont => obtain ⟨σ7, H7, I7, n7⟩ := q7; exact again I7 n7
    | brk => obtain ⟨σ7, H7, I7, q7⟩ := q7; exact ⟨σ7, H7, I7.unpinned, q7⟩
    | ret v => obtain ⟨x7, σ7, H7, I7, r7, q7⟩ := q7; exact ⟨x7, σ7, H7, I7.unpinned, r7, q7⟩
end
theorem for_list {K : PySem.W.Frag} {a : Addr} {xs : List V} {g : TG} {tb : TS} {D : Ends} {σ : St} {H : Hp} (Pv : Nat → St → Hp → Prop) (h0 : Pv 0 σ H) (hl : ∀ i σ H, i ≤ xs.length → Pv i σ H → SqL K H a xs)
    (hs : ∀ i x σ H, xs[i]? = some x → Pv i σ H → g x σ H fun σ2 H2 => tb { D with nx := Pv (i + 1), ct := Pv (i + 1), bk := D.nx } σ2 H2) (hd : ∀ σ H, Pv xs.length σ H → D.nx σ H) :
    ∃ W : Nat → Nat → St → Hp → Prop, (∃ m, W 0 m σ H) ∧ ∀ i m σ H, W i m σ H →
      ((Itl K a).stop i H ∧ D.nx σ H) ∨ ((Itl K a).go i H ∧ ∃ N : St → Hp → Prop, (∀ σ' H', N σ' H' → ∃ m', m' < m ∧ W (i + 1) m' σ' H') ∧ ∀ x H', (Itl K a).yld i H x H' → g x σ H' fun σ2 H2 => tb { D with nx := N, ct := N, bk := D.nx } σ2 H2) := by
  refine ⟨fun i m σ H => m = xs.length - i ∧ i ≤ xs.length ∧ Pv i σ H, ⟨xs.length, by simp, Nat.zero_le _, h0⟩, ?_⟩
  rintro i m σ H ⟨rfl, hi, p⟩
  have q := hl i σ H hi p
  by_cases hlt : i < xs.length
  · refine .inr ⟨⟨xs, xs[i], q, by simp [hlt]⟩, Pv (i + 1), fun σ' H' p' => ⟨xs.length - (i + 1), by omega, rfl, hlt, p'⟩, fun x H' y => ?_⟩
    obtain ⟨e, y⟩ := y
    subst e
    exact hs i x σ _ (y xs q) p
  · have e : i = xs.length := by omega
    subst e
    exact .inl ⟨⟨xs, q, Nat.le_refl _⟩, hd σ H p⟩
theorem for_range {lo : Int} {n : Nat} {g : TG} {tb : TS} {D : Ends} {σ : St} {H : Hp} (Pv : Nat → St → Hp → Prop) (h0 : Pv 0 σ H)
    (hs : ∀ i σ H, i < n → Pv i σ H → g (.int (lo + i)) σ H fun σ2 H2 => tb { D with nx := Pv (i + 1), ct := Pv (i + 1), bk := D.nx } σ2 H2) (hd : ∀ σ H, Pv n σ H → D.nx σ H) :
    ∃ W : Nat → Nat → St → Hp → Prop, (∃ m, W 0 m σ H) ∧ ∀ i m σ H, W i m σ H →
      ((Itr lo n).stop i H ∧ D.nx σ H) ∨ ((Itr lo n).go i H ∧ ∃ N : St → Hp → Prop, (∀ σ' H', N σ' H' → ∃ m', m' < m ∧ W (i + 1) m' σ' H') ∧ ∀ x H', (Itr lo n).yld i H x H' → g x σ H' fun σ2 H2 => tb { D with nx := N, ct := N, bk := D.nx } σ2 H2) := by
  refine ⟨fun i m σ H => m = n - i ∧ i ≤ n ∧ Pv i σ H, ⟨n, by simp, Nat.zero_le _, h0⟩, ?_⟩
  rintro i m σ H ⟨rfl, hi, p⟩
  by_cases hlt : i < n
  · refine .inr ⟨hlt, Pv (i + 1), fun σ' H' p' => ⟨n - (i + 1), by omega, rfl, hlt, p'⟩, fun x H' y => ?_⟩
    obtain ⟨e, y⟩ := y
    subst e y
    exact hs i σ _ hlt p
  · have e : i = n := by omega
    subst e
    exact .inl ⟨Nat.le_refl _, hd σ H p⟩
end L2
namespace L2
open PySem PySem.Spec PyProof.Rows
abbrev R2 := V → V → Hp → VK → Prop
def OpR (X : Cx) (f : Value → Value → Sem Value) (r : R2) : Prop :=
  ∀ (pins : List (Addr × Obj)) (s : Shared) (σ : St) (H : Hp) (x y : V) (v u : Value) (Q : VK), Inv X pins σ H s → RelV x v → RelV y u → r x y H Q →
    wpAny (model X.prog X.w) X.A (f v u) (EP X pins σ Q) X.xe s
def UnR (X : Cx) (f : Value → Sem Value) (r : V → Hp → VK → Prop) : Prop :=
  ∀ (pins : List (Addr × Obj)) (s : Shared) (σ : St) (H : Hp) (x : V) (v : Value) (Q : VK), Inv X pins σ H s → RelV x v → r x H Q →
    wpAny (model X.prog X.w) X.A (f v) (EP X pins σ Q) X.xe s
def CallR (X : Cx) (f : Value) (r : List V → Hp → VK → Prop) : Prop :=
  ∀ (pins : List (Addr × Obj)) (s : Shared) (σ : St) (H : Hp) (xs : List V) (us : List Value) (Q : VK), Inv X pins σ H s → Vals xs us → r xs H Q →
    wpAny (model X.prog X.w) X.A (call f us) (EP X pins σ Q) X.xe s
def TruR (X : Cx) (r : V → Hp → (Bool → Hp → Prop) → Prop) : Prop :=
  ∀ (pins : List (Addr × Obj)) (s : Shared) (σ : St) (H : Hp) (x : V) (v : Value) (Q : Bool → Hp → Prop), Inv X pins σ H s → RelV x v → r x H Q →
    wpAny (model X.prog X.w) X.A (truthy v) (TP X pins σ Q) X.xe s
def tOp (r : R2) (ta tb : TE) : TE := fun σ H Q => ta σ H fun x H1 => tb σ H1 fun y H2 => r x y H2 Q
def tUn (r : V → Hp → VK → Prop) (ta : TE) : TE := fun σ H Q => ta σ H fun x H1 => r x H1 Q
def rI (C : Int → Int → Prop) (g : Int → Int → V) : R2 := fun x y H Q => ∃ i j, x = .int i ∧ y = .int j ∧ C i j ∧ Q (g i j) H
def rI0 (g : Int → Int → V) : R2 := fun x y H Q => ∃ i j, x = .int i ∧ y = .int j ∧ Q (g i j) H
def rU (g : Int → V) : V → Hp → VK → Prop := fun x H Q => ∃ i, x = .int i ∧ Q (g i) H
section
variable {X : Cx} {a b c : Expr} {ta tb tc : TE} {pos : Pos}
theorem binT (ha : PE X a ta) (hb : PE X b tb) {pins : List (Addr × Obj)} {s : Shared} {σ : St} {H : Hp} {R : V → V → Hp → Prop} (I : Inv X pins σ H s)
    (h : ta σ H fun x H1 => tb σ H1 fun y H2 => R x y H2) {Q : Value → Shared → Prop} {f : Value → Value → Sem Value}
    (hf : ∀ v u s2 x y H2, Inv X pins σ H2 s2 → RelV x v → RelV y u → R x y H2 → wpAny (model X.prog X.w) X.A (f v u) Q X.xe s2) :
    wpAny (model X.prog X.w) X.A (eval a X.env) (fun v s₁ => wpAny (model X.prog X.w) X.A (eval b X.env) (fun u s₂ => wpAny (model X.prog X.w) X.A (f v u) Q X.xe s₂) X.xe s₁) X.xe s := by
  refine thn (ha pins s σ H _ I h) fun v s1 ⟨x, H1, I1, r1, q1⟩ => ?_
  refine thn (hb pins s1 σ H1 _ I1 q1) fun u s2 ⟨y, H2, I2, r2, q2⟩ => ?_
  exact hf v u s2 x y H2 I2 r1 r2 q2
theorem pe_op {op : Operator} {r : R2} (ho : OpR X (binaryOp op) r) (ha : PE X a ta) (hb : PE X b tb) : PE X (.BinOp a op b pos) (tOp r ta tb) := by
  intro pins s σ H Q I h
  exact wpAny_BinOp (binT ha hb I h fun v u s2 x y H2 I2 rx ry q => ho pins s2 σ H2 x y v u Q I2 rx ry q)
theorem pe_un {op : UnaryOp} {r : V → Hp → VK → Prop} (ho : UnR X (unaryOp op) r) (ha : PE X a ta) : PE X (.UnaryOp op a pos) (tUn r ta) := by
  intro pins s σ H Q I h
  exact UnaryOp_ (thn (ha pins s σ H _ I h) fun v s1 ⟨x, H1, I1, r1, q1⟩ => ho pins s1 σ H1 x v Q I1 r1 q1)
theorem opI {f : Value → Value → Sem Value} {C : Int → Int → Prop} {g : Int → Int → Int}
    (rule : ∀ (i j : Int) (t u : Tok) (s : Shared) (Q : Value → Shared → Prop) (E : Value → Shared → Prop), C i j → Q (.int (g i j) s.toks) { s with toks := s.toks + 1 } → wpAny (model X.prog X.w) X.A (f (.int i t) (.int j u)) Q E s) :
    OpR X f (rI C fun i j => .int (g i j)) := by
  intro pins s σ H x y v u Q I rx ry h
  obtain ⟨i, j, rfl, rfl, hc, q⟩ := h
  obtain ⟨t, rfl⟩ := rx
  obtain ⟨t', rfl⟩ := ry
  exact rule i j t t' s _ _ hc ⟨.int (g i j), H, I.tok _, ⟨_, rfl⟩, q⟩
theorem opI0 {f : Value → Value → Sem Value} {g : Int → Int → Int}
    (rule : ∀ (i j : Int) (t u : Tok) (s : Shared) (Q : Value → Shared → Prop) (E : Value → Shared → Prop), Q (.int (g i j) s.toks) { s with toks := s.toks + 1 } → wpAny (model X.prog X.w) X.A (f (.int i t) (.int j u)) Q E s) :
    OpR X f (rI0 fun i j => .int (g i j)) := by
  intro pins s σ H x y v u Q I rx ry h
  obtain ⟨i, j, rfl, rfl, q⟩ := h
  obtain ⟨t, rfl⟩ := rx
  obtain ⟨t', rfl⟩ := ry
  exact rule i j t t' s _ _ ⟨.int (g i j), H, I.tok _, ⟨_, rfl⟩, q⟩
theorem opB0 {f : Value → Value → Sem Value} {g : Int → Int → Bool}
    (rule : ∀ (i j : Int) (t u : Tok) (s : Shared) (Q : Value → Shared → Prop) (E : Value → Shared → Prop), Q (.bool (g i j)) s → wpAny (model X.prog X.w) X.A (f (.int i t) (.int j u)) Q E s) :
    OpR X f (rI0 fun i j => .bl (g i j)) := by
  intro pins s σ H x y v u Q I rx ry h
  obtain ⟨i, j, rfl, rfl, q⟩ := h
  obtain ⟨t, rfl⟩ := rx
  obtain ⟨t', rfl⟩ := ry
  exact rule i j t t' s _ _ ⟨.bl (g i j), H, I, rfl, q⟩
def CPow (i j : Int) : Prop := 0 ≤ j ∧ j ≤ 1000000 ∧ i.natAbs < 2 ^ 64
def CMul (i j : Int) : Prop := (-(2 ^ 64) < i ∧ i < 2 ^ 64) ∨ (-(2 ^ 64) < j ∧ j < 2 ^ 64)
theorem CMul.ok {i j : Int} (h : CMul i j) : IntMulOk i j := by
  rcases h with ⟨h1, h2⟩ | ⟨h1, h2⟩
  · exact .of_left (intBits_le_64 h1 h2)
  · exact .of_right (intBits_le_64 h1 h2)
theorem op_add : OpR X (binaryOp .Add) (rI0 fun i j => .int (i + j)) := opI0 fun _ _ _ _ _ _ _ q => add_int q
theorem op_sub : OpR X (binaryOp .Sub) (rI0 fun i j => .int (i - j)) := opI0 fun _ _ _ _ _ _ _ q => sub_int q
theorem op_mul : OpR X (binaryOp .Mult) (rI CMul fun i j => .int (i * j)) := opI fun _ _ _ _ _ _ _ hc q => mul_int q hc.ok
theorem op_mod : OpR X (binaryOp .Mod) (rI (fun _ j => 0 < j) fun i j => .int (i % j)) := opI fun i j _ _ _ _ _ hc q => by
  have h1 : (0 : Int) < j := hc
  exact mod_int' (by omega) (by rw [Int.fmod_eq_emod_of_nonneg i (by omega)]; exact q)
theorem op_pow : OpR X (binaryOp .Pow) (rI CPow fun i j => .int (i ^ j.toNat)) := opI fun _ _ _ _ _ _ _ hc q => pow_int_small hc.1 hc.2.1 hc.2.2 q
theorem unI {f : Value → Sem Value} {g : Int → Int}
    (rule : ∀ (i : Int) (t : Tok) (s : Shared) (Q : Value → Shared → Prop) (E : Value → Shared → Prop), Q (.int (g i) s.toks) { s with toks := s.toks + 1 } → wpAny (model X.prog X.w) X.A (f (.int i t)) Q E s) :
    UnR X f (rU fun i => .int (g i)) := by
  intro pins s σ H x v Q I rx h
  obtain ⟨i, rfl, q⟩ := h
  obtain ⟨t, rfl⟩ := rx
  exact rule i t s _ _ ⟨.int (g i), H, I.tok _, ⟨_, rfl⟩, q⟩
theorem un_neg : UnR X (unaryOp .USub) (rU fun i => .int (-i)) := unI fun _ _ _ _ _ q => neg_int q
end
def scal : V → V → Bool
  | .non, .non => true | .non, .int _ => true | .int _, .non => true | .non, .bl _ => true | .bl _, .non => true | .non, .str _ => true | .str _, .non => true
  | .int _, .int _ => true | .bl _, .bl _ => true | .str _, .str _ => true | .byt _, .byt _ => true
  | .int _, .str _ => true | .str _, .int _ => true | .bl _, .str _ => true | .str _, .bl _ => true
  | _, _ => false
def rEq : R2 := fun x y H Q => scal x y = true ∧ Q (.bl (decide (x = y))) H
def rNe : R2 := fun x y H Q => scal x y = true ∧ Q (.bl (!decide (x = y))) H
theorem dec_int {i j : Int} : decide (V.int i = V.int j) = (i == j) := by
  rw [Bool.eq_iff_iff]
  simp
theorem dec_bl {i j : Bool} : decide (V.bl i = V.bl j) = (i == j) := by
  rw [Bool.eq_iff_iff]
  simp
theorem dec_str {i j : Str} : decide (V.str i = V.str j) = (i == j) := by
  rw [Bool.eq_iff_iff]
  simp
theorem dec_byt {i j : Array UInt8} : decide (V.byt i = V.byt j) = (i.toList == j.toList) := by
  rw [Bool.eq_iff_iff]
  cases i
  cases j
  simp
section
variable {X : Cx} {a b c : Expr} {ta tb tc : TE} {pos : Pos}
theorem fin_bl {pins : List (Addr × Obj)} {σ : St} {H : Hp} {s : Shared} {Q : VK} {k k' : Bool} (I : Inv X pins σ H s) (q : Q (.bl k) H) (e : k = k') : EP X pins σ Q (.bool k') s := by
  subst e
  exact ⟨.bl k, H, I, rfl, q⟩
theorem op_eq : OpR X (compareOp .Eq) rEq := by
  intro pins s σ H x y v u Q I rx ry h
  obtain ⟨hs, q⟩ := h
  cases x with
  | non =>
    cases rx
    cases y with
    | non => cases ry; exact PySem.EqNone.eq_none_none (fin_bl I q (by simp))
    | bl j => cases ry; exact PySem.EqNone.eq_none_bool (fin_bl I q (by simp))
    | int j => obtain ⟨t', rfl⟩ := ry; exact PySem.EqNone.eq_none_int (fin_bl I q (by simp))
    | str j => obtain ⟨t', rfl⟩ := ry; exact PySem.EqNone.eq_none_str (fin_bl I q (by simp))
    | _ => exact absurd (show false = true from hs) Bool.false_ne_true
  | bl i =>
    cases rx
    cases y with
    | non => cases ry; exact PySem.EqNone.eq_bool_none (fin_bl I q (by simp))
    | bl j => cases ry; exact eq_bool (fin_bl I q dec_bl)
    | str j => obtain ⟨t', rfl⟩ := ry; exact PySem.EqMixed.eq_bool_str (fin_bl I q (by simp))
    | _ => exact absurd (show false = true from hs) Bool.false_ne_true
  | int i =>
    obtain ⟨t, rfl⟩ := rx
    cases y with
    | non => cases ry; exact PySem.EqNone.eq_int_none (fin_bl I q (by simp))
    | int j => obtain ⟨t', rfl⟩ := ry; exact eq_int (fin_bl I q dec_int)
    | str j => obtain ⟨t', rfl⟩ := ry; exact PySem.EqMixed.eq_int_str (fin_bl I q (by simp))
    | _ => exact absurd (show false = true from hs) Bool.false_ne_true
  | str i =>
    obtain ⟨t, rfl⟩ := rx
    cases y with
    | non => cases ry; exact PySem.EqNone.eq_str_none (fin_bl I q (by simp))
    | bl j => cases ry; exact PySem.EqMixed.eq_str_bool (fin_bl I q (by simp))
    | int j => obtain ⟨t', rfl⟩ := ry; exact PySem.EqMixed.eq_str_int (fin_bl I q (by simp))
    | str j => obtain ⟨t', rfl⟩ := ry; exact eq_str (fin_bl I q dec_str)
    | _ => exact absurd (show false = true from hs) Bool.false_ne_true
  | byt i =>
    obtain ⟨t, rfl⟩ := rx
    cases y with
    | byt j => obtain ⟨t', rfl⟩ := ry; exact PySem.W.eq_bytes (fin_bl I q dec_byt)
    | _ => exact absurd (show false = true from hs) Bool.false_ne_true
  | _ => cases y <;> exact absurd (show false = true from hs) Bool.false_ne_true
theorem op_ne : OpR X (compareOp .NotEq) rNe := by
  intro pins s σ H x y v u Q I rx ry h
  obtain ⟨hs, q⟩ := h
  cases x with
  | non =>
    cases rx
    cases y with
    | non => cases ry; exact PySem.EqNone.ne_none_none (fin_bl I q (by simp))
    | bl j => cases ry; exact PySem.EqNone.ne_none_bool (fin_bl I q (by simp))
    | int j => obtain ⟨t', rfl⟩ := ry; exact PySem.EqNone.ne_none_int (fin_bl I q (by simp))
    | str j => obtain ⟨t', rfl⟩ := ry; exact PySem.EqNone.ne_none_str (fin_bl I q (by simp))
    | _ => exact absurd (show false = true from hs) Bool.false_ne_true
  | bl i =>
    cases rx
    cases y with
    | non => cases ry; exact PySem.EqNone.ne_bool_none (fin_bl I q (by simp))
    | bl j => cases ry; exact ne_bool (fin_bl I q (congrArg not dec_bl))
    | str j => obtain ⟨t', rfl⟩ := ry; exact PySem.EqMixed.ne_bool_str (fin_bl I q (by simp))
    | _ => exact absurd (show false = true from hs) Bool.false_ne_true
  | int i =>
    obtain ⟨t, rfl⟩ := rx
    cases y with
    | non => cases ry; exact PySem.EqNone.ne_int_none (fin_bl I q (by simp))
    | int j => obtain ⟨t', rfl⟩ := ry; exact ne_int (fin_bl I q (congrArg not dec_int))
    | str j => obtain ⟨t', rfl⟩ := ry; exact PySem.EqMixed.ne_int_str (fin_bl I q (by simp))
    | _ => exact absurd (show false = true from hs) Bool.false_ne_true
  | str i =>
    obtain ⟨t, rfl⟩ := rx
    cases y with
    | non => cases ry; exact PySem.EqNone.ne_str_none (fin_bl I q (by simp))
    | bl j => cases ry; exact PySem.EqMixed.ne_str_bool (fin_bl I q (by simp))
    | int j => obtain ⟨t', rfl⟩ := ry; exact PySem.EqMixed.ne_str_int (fin_bl I q (by simp))
    | str j => obtain ⟨t', rfl⟩ := ry; exact ne_str (fin_bl I q (congrArg not dec_str))
    | _ => exact absurd (show false = true from hs) Bool.false_ne_true
  | byt i =>
    obtain ⟨t, rfl⟩ := rx
    cases y with
    | byt j => obtain ⟨t', rfl⟩ := ry; exact PySem.W.ne_bytes (fin_bl I q (congrArg not dec_byt))
    | _ => exact absurd (show false = true from hs) Bool.false_ne_true
  | _ => cases y <;> exact absurd (show false = true from hs) Bool.false_ne_true
theorem op_lt : OpR X (compareOp .Lt) (rI0 fun i j => .bl (decide (i < j))) := opB0 fun _ _ _ _ _ _ _ q => lt_int q
theorem op_gt : OpR X (compareOp .Gt) (rI0 fun i j => .bl (decide (j < i))) := opB0 fun _ _ _ _ _ _ _ q => gt_int q
theorem op_ge : OpR X (compareOp .GtE) (rI0 fun i j => .bl (decide (j ≤ i))) := opB0 fun _ _ _ _ _ _ _ q => ge_int q
theorem op_isN : OpR X (compareOp .Is) (fun x y H Q => y = .non ∧ Q (.bl (decide (x = .non))) H) := by
  intro pins s σ H x y v u Q I rx ry h
  obtain ⟨rfl, q⟩ := h
  cases ry
  refine is_none_gen (fin_bl I q ?_)
  cases x <;> first
    | (cases rx; rfl)
    | (obtain ⟨t, rfl⟩ := rx; rfl)
theorem op_notN : OpR X (compareOp .IsNot) (fun x y H Q => y = .non ∧ Q (.bl (!decide (x = .non))) H) := by
  intro pins s σ H x y v u Q I rx ry h
  obtain ⟨rfl, q⟩ := h
  cases ry
  refine isnot_none_gen (fin_bl I q ?_)
  cases x <;> first
    | (cases rx; rfl)
    | (obtain ⟨t, rfl⟩ := rx; rfl)
theorem OpR.or {f : Value → Value → Sem Value} {r r' : R2} (h : OpR X f r) (h' : OpR X f r') : OpR X f (fun x y H Q => r x y H Q ∨ r' x y H Q) := by
  intro pins s σ H x y v u Q I rx ry q
  rcases q with q | q
  · exact h pins s σ H x y v u Q I rx ry q
  · exact h' pins s σ H x y v u Q I rx ry q
theorem nomark (b : Expr) {op : CmpOp} (h : op ≠ .In := by decide) (h2 : op ≠ .NotIn := by decide) : behindInMarks op b = false := by
  have e1 : (op == CmpOp.In) = false := by cases op <;> first | rfl | exact absurd rfl h
  have e2 : (op == CmpOp.NotIn) = false := by cases op <;> first | rfl | exact absurd rfl h2
  cases b <;> simp [behindInMarks, e1, e2]
theorem pe_cmpR {op : CmpOp} {r : R2} (ho : OpR X (compareOp op) r) (ha : PE X a ta) (hb : PE X b tb) (hm : behindInMarks op b = false) : PE X (.Compare a [op] [b] pos) (tOp r ta tb) := by
  intro pins s σ H Q I h
  exact wpAny_Compare1 (binT ha hb I h fun v u s2 x y H2 I2 rx ry q => ho pins s2 σ H2 x y v u Q I2 rx ry q) hm
def tTest (t : TE) : TT := fun σ H Q => t σ H fun x H' => ∃ k, x = .bl k ∧ Q k H'
theorem pt_cmpR {op : CmpOp} {r : R2} (ho : OpR X (compareOp op) r) (ha : PE X a ta) (hb : PE X b tb) (hm : behindInMarks op b = false) : PT X (.Compare a [op] [b] pos) (tTest (tOp r ta tb)) := by
  intro pins s σ H Q I h
  refine wpAny_isTrue_Compare1 (thn (ha pins s σ H _ I h) fun v s1 ⟨x, H1, I1, r1, q1⟩ => thn (hb pins s1 σ H1 _ I1 q1) fun u s2 ⟨y, H2, I2, r2, q2⟩ =>
    thn (ho pins s2 σ H2 x y v u _ I2 r1 r2 q2) fun c s3 ⟨z, H3, I3, r3, k, e, q3⟩ => ?_) hm
  subst e
  cases r3
  exact wpAny_truthy_bool ⟨H3, I3, q3⟩
def TruV (K : PySem.W.Frag) (x : V) (H : Hp) (k : Bool) : Prop :=
  match x with
  | .non => k = false
  | .bl b => k = b
  | .int i => k = (i != 0)
  | .str y => y.length ≤ sizeLine ∧ k = ((y.length : Int) != 0)
  | .byt y => y.size ≤ sizeLine ∧ k = ((y.size : Int) != 0)
  | .ref p => (∃ xs, SqL K H p xs ∧ k = !xs.isEmpty) ∨ (∃ xs, SqT K H p xs ∧ k = !xs.isEmpty) ∨ ∃ kvs, H p = some (.dK kvs) ∧ k = !kvs.isEmpty
  | _ => False
theorem isEmpty_kv {κ : Type} {kvs : List (κ × V)} {vs : List (κ × Value)} (r : KV kvs vs) : (!vs.isEmpty) = !kvs.isEmpty := by
  cases r <;> rfl
theorem isEmpty_of {xs : List V} {its : List Value} (r : Vals xs its) : (!its.toArray.isEmpty) = !xs.isEmpty := by
  cases r <;> simp
theorem line63 : (sizeLine : Nat) < 2 ^ 63 := by rw [sizeLine_eq]; decide
theorem tru_ok : TruR X (fun x H Q => ∃ k, TruV X.K x H k ∧ Q k H) := by
  intro pins s σ H x v Q I rx h
  obtain ⟨k, e, q⟩ := h
  have hl := line63
  have hs : sizeLine = 16777216 := sizeLine_eq
  cases x with
  | non =>
    cases rx
    have e' : k = false := e
    subst e'
    exact truthy_none ⟨H, I, q⟩
  | bl b =>
    cases rx
    have e' : k = b := e
    subst e'
    exact wpAny_truthy_bool ⟨H, I, q⟩
  | int i =>
    obtain ⟨t, rfl⟩ := rx
    have e' : k = (i != 0) := e
    subst e'
    exact PySem.P.truthy_int ⟨H, I, q⟩
  | str y =>
    obtain ⟨t, rfl⟩ := rx
    obtain ⟨hy, e'⟩ : y.length ≤ sizeLine ∧ k = ((y.length : Int) != 0) := e
    subst e'
    exact PySem.P.truthy_str (by omega) ⟨H, I.tok _, q⟩
  | byt y =>
    obtain ⟨t, rfl⟩ := rx
    obtain ⟨hy, e'⟩ : y.size ≤ sizeLine ∧ k = ((y.size : Int) != 0) := e
    subst e'
    exact PySem.W.truthy_bytes (by omega) ⟨H, I.tok _, q⟩
  | ref p =>
    cases rx
    have e' : (∃ xs, SqL X.K H p xs ∧ k = !xs.isEmpty) ∨ (∃ xs, SqT X.K H p xs ∧ k = !xs.isEmpty) ∨ ∃ kvs, H p = some (.dK kvs) ∧ k = !kvs.isEmpty := e
    rcases e' with ⟨xs, hx, e'⟩ | ⟨xs, hx, e'⟩ | ⟨kvs, hx, e'⟩
    · subst e'
      obtain ⟨its, r, pl, hz⟩ := I.list hx
      have hlen := r.length
      exact wpAny_truthy_list pl.isList (by simp only [List.size_toArray]; omega) ⟨H, I.tok _, by rw [isEmpty_of r]; exact q⟩
    · subst e'
      obtain ⟨its, r, pl, hz⟩ := I.tuple hx
      have hlen := r.length
      exact truthy_tuple pl (by simp only [List.size_toArray]; omega) ⟨H, I.tok _, by rw [isEmpty_of r]; exact q⟩
    · subst e'
      obtain ⟨hz, hS, vs, r, m⟩ : kvs.length ≤ sizeLine ∧ (p == sysModules) = false ∧ ∃ vs, KV kvs vs ∧ s.heap.DictOf (mixKind X.prog X.w) p vs := I.hok p _ hx
      have hlen : kvs.length = vs.length := Paired.length r
      exact wpAny_truthy_dict hS m (by omega) ⟨H, I.tok _, by rw [isEmpty_kv r]; exact q⟩
  | _ => exact (show False from e).elim
theorem pt_truth (ha : PE X a ta) (he : ∀ whole, isTrue a X.env whole = (do let v ← whole; standAt a.pos; holding [v] (truthy v))) :
    PT X a (fun σ H Q => ta σ H fun x H' => ∃ k, TruV X.K x H' k ∧ Q k H') := by
  intro pins s σ H Q I h
  exact isTrue_plain (thn (ha pins s σ H _ I h) fun v s1 ⟨x, H1, I1, r1, q1⟩ => tru_ok pins s1 σ H1 x v Q I1 r1 q1) (he _)
theorem op_add_str : OpR X (binaryOp .Add) (fun x y H Q => ∃ i j, x = .str i ∧ y = .str j ∧ i.length + j.length ≤ sizeLine ∧ Q (.str (i ++ j)) H) := by
  intro pins s σ H x y v u Q I rx ry h
  obtain ⟨i, j, rfl, rfl, hz, q⟩ := h
  obtain ⟨t, rfl⟩ := rx
  obtain ⟨t', rfl⟩ := ry
  exact add_str (fun t' tk => ⟨.str (i ++ j), H, I.tok _, ⟨_, rfl⟩, q⟩) hz
theorem vals1 {x : V} {us : List Value} (r : Vals [x] us) : ∃ u, us = [u] ∧ RelV x u := by
  cases r with
  | cons r1 r2 => cases r2; exact ⟨_, rfl, r1⟩
theorem vals2 {x y : V} {us : List Value} (r : Vals [x, y] us) : ∃ u w', us = [u, w'] ∧ RelV x u ∧ RelV y w' := by
  cases r with
  | cons r1 r2 =>
    cases r2 with
    | cons r3 r4 => cases r4; exact ⟨_, _, rfl, r1, r3⟩
theorem call_abs : CallR X (.builtin "abs") (fun xs H Q => ∃ i, xs = [.int i] ∧ Q (.int (if i < 0 then -i else i)) H) := by
  intro pins s σ H xs us Q I r h
  obtain ⟨i, rfl, q⟩ := h
  obtain ⟨u, rfl, t, rfl⟩ := vals1 r
  exact call_abs_int fun u tk => ⟨.int (if i < 0 then -i else i), H, I.tok _, ⟨_, rfl⟩, q⟩
end
end L2
namespace L2
open PySem PySem.Spec PyProof.Rows
structure ObjM (h : Heap) (x dx C : Addr) (mA : Str → Option Value) : Prop where
  obj : h.get? x = some (PySem.W.instObj C dx)
  ns : h.Ns1 dx mA
  ne : dx ≠ x
theorem lookIn_ns {h : Heap} {dx : Addr} {mA : Str → Option Value} (n : h.Ns1 dx mA) : ∃ od, h.get? dx = some od ∧ ∀ name, PySem.W.lookIn name od = some (mA name) := by
  obtain ⟨o, es, ep, ho, hd, hk, _, hm⟩ := n
  refine ⟨o, ho, fun name => ?_⟩
  have e := hm name
  unfold nsFind findBy at e
  rw [← Array.find?_toList] at e
  unfold PySem.W.lookIn
  rw [hd]
  dsimp only
  split
  · rename_i y q
    rw [q] at e
    exact congrArg some e
  · rename_i q
    rw [q] at e
    have a : es.toList.any (·.refKey) = false := by
      rw [List.any_eq_false]
      intro y hy
      obtain ⟨z, t, hkey⟩ := hk y (Array.mem_toList_iff.mp hy)
      simp [DictEntry.refKey, hkey]
    have a' : ¬ es.toList.any (·.refKey) = true := by rw [a]; exact Bool.false_ne_true
    rw [if_neg a']
    exact congrArg some e
theorem ObjM.look {h : Heap} {x dx C : Addr} {mA : Str → Option Value} (I : ObjM h x dx C mA) : ∃ od, PySem.W.InstAt h x (PySem.W.instObj C dx) C (some od) ∧ ∀ name, PySem.W.lookIn name od = some (mA name) :=
  let ⟨od, ho, hl⟩ := lookIn_ns I.ns
  ⟨od, ⟨I.obj, rfl, rfl, ho⟩, hl⟩
section
variable {prog : Program} {w : World} {A : Around} {E : Value → Shared → Prop} {s : Shared} {K : PySem.W.Frag} {x dx C f : Addr} {mA : Str → Option Value} {name : Str} {v : Value}
end
section
variable {P : Program} {w : World} {H H' : Hp} {h h' : Heap} {a C dx : Addr} {fs fs' : List (Str × V)}
theorem ins_get (hok : HOk P w H h) (e : H a = some (.ins C dx fs)) : ∃ mA, ObjM h a dx C mA ∧ (∀ f, RelO (fs.lookup f) (mA f)) ∧ PySem.Within mA (fs.map (·.1)) ∧ fs.length ≤ 1000 ∧ H dx = some (.own a) := by
  obtain ⟨d, z, ne, ob, mA, n, r, q⟩ := (show ObjOk P w H h a (.ins C dx fs) from hok a _ e)
  exact ⟨mA, ⟨ob, n, ne⟩, r, q, z, d⟩
end
structure Cls (K : PySem.W.Frag) (C : Addr) : Prop where
  pg : PySem.W.plainGet K C Str.empty = true
  hd : PySem.W.hasDictIn K C = true
  po : PySem.W.plainOver K C = true
  sa : PySem.W.findIn K (.ref C) "__setattr__" = some (some (.builtin "object.__setattr__"))
theorem Cls.get {K : PySem.W.Frag} {C : Addr} (c : Cls K C) (f : Str) : PySem.W.plainGet K C f = true := c.pg
section
variable {X : Cx} {pins : List (Addr × Obj)} {σ : St} {H : Hp} {s : Shared} {a C dx : Addr} {fs : List (Str × V)} {f : Str} {v : V} {A : Around} {E : Value → Shared → Prop}
theorem Inv.made (I : Inv X pins σ H s) : Inv X pins σ (upd (upd H s.heap.objs.size (.own (s.heap.objs.size + 1))) (s.heap.objs.size + 1) (.ins C s.heap.objs.size []))
    { s with heap := (s.heap.push PySem.W.emptyDict).push (PySem.W.instObj C s.heap.objs.size) } := by
  have e1 : (s.heap.push PySem.W.emptyDict).get? s.heap.objs.size = some PySem.W.emptyDict := Heap.get?_push_size s.heap rfl
  have e2 : ((s.heap.push PySem.W.emptyDict).push (PySem.W.instObj C s.heap.objs.size)).get? (s.heap.objs.size + 1) = some (PySem.W.instObj C s.heap.objs.size) := by
    have := Heap.get?_push_size (s.heap.push PySem.W.emptyDict) (o := PySem.W.instObj C s.heap.objs.size) rfl
    rwa [Heap.size_push] at this
  have e3 : (s.heap.push PySem.W.emptyDict).Ns s.heap.objs.size (fun _ => none) := ⟨PySem.W.emptyDict, #[], _, e1, rfl, (fun e he => absurd he (by simp)), fun _ => rfl⟩
  have I1 := I.laid (a := s.heap.objs.size) (o := .own (s.heap.objs.size + 1)) (h' := s.heap.push PySem.W.emptyDict) (t' := s.toks) (fun b u q => Heap.get?_push_of_some _ q) (Nat.le_refl _) ⟨_, e1⟩
  refine I1.laid (a := s.heap.objs.size + 1) (o := .ins C s.heap.objs.size []) (t' := s.toks) (fun b u q => Heap.get?_push_of_some _ q) (Nat.le_of_eq (Heap.size_push _ _)) ?_
  have ne : s.heap.objs.size ≠ s.heap.objs.size + 1 := Nat.ne_of_lt (Nat.lt_succ_self _)
  refine ⟨by rw [upd_ne ne, upd_same], Nat.zero_le _, ne, e2, fun _ => none, (Heap.Ns1.of_empty e3).at fun o q => Heap.get?_push_of_some _ q, fun _ => True.intro, fun y hy => absurd rfl hy⟩
end
section
variable {X : Cx} {o e value : Expr} {f : Str} {pos pos' tpos : Pos} {ta tv : TE}
def rAdd : V → V → Hp → VK → Prop := fun x y H Q => ∃ i j, x = .int i ∧ y = .int j ∧ Q (.int (i + j)) H
def rSub : V → V → Hp → VK → Prop := fun x y H Q => ∃ i j, x = .int i ∧ y = .int j ∧ Q (.int (i - j)) H
end
section
variable {X : Cx} {pins : List (Addr × Obj)} {σ : St} {H : Hp} {s : Shared} {A : Around} {E : Value → Shared → Prop} {Q : Value → Shared → Prop} {c : Value} {b : Bool}
inductive TyOf (K : PySem.W.Frag) (H : Hp) : V → Value → Prop where
  | non : TyOf K H .non (.type "NoneType")
  | bl (x : Bool) : TyOf K H (.bl x) (.type "bool")
  | int (i : Int) : TyOf K H (.int i) (.type "int")
  | str (x : Str) : TyOf K H (.str x) (.type "str")
  | flt (x : UInt64) : TyOf K H (.flt x) (.type "float")
  | lst {a : Addr} {xs : List V} (e : H a = some (.lst xs)) : TyOf K H (.ref a) (.type "list")
  | frz {a : Addr} {o : Obj} {xs : List V} (e : H a = some (.frz o (.lst xs))) : TyOf K H (.ref a) (.type "list")
  | tup {a : Addr} {xs : List V} (e : H a = some (.tup xs)) : TyOf K H (.ref a) (.type "tuple")
  | dK {a : Addr} {kvs : List (Key × V)} (e : H a = some (.dK kvs)) : TyOf K H (.ref a) (.type "dict")
  | dT {a : Addr} {kvs : List (List Key × V)} (e : H a = some (.dT kvs)) : TyOf K H (.ref a) (.type "dict")
  | ins {a C dx : Addr} {fs : List (Str × V)} (e : H a = some (.ins C dx fs)) (cl : Cls K C) (ha : PySem.W.findIn K (.ref C) "__class__" = some (some (.builtin "object.__class__")))
      (hn : PySem.W.specialIn K (.builtin "object.__class__") "__get__" = some (some (.builtin "getset_descriptor.__get__"))) (htk : PySem.W.takesIn K (.builtin "object.__class__") = some true)
      (hm : PySem.W.mroIn K C (.type "object") = some true) : TyOf K H (.ref a) (.ref C)
theorem isinst_ok {x : V} {u t : Value} (I : Inv X pins σ H s) (rx : RelV x u) (ty : TyOf X.K H x t) (e : PySem.W.kitOne X.K t c = some b) (h : ∀ tk, Q (.bool b) { s with toks := tk }) :
    wpAny (model X.prog X.w) A (call (.builtin "isinstance") [u, c]) Q E s := by
  cases ty with
  | non => cases (show u = Value.none from rx); exact PySem.W.kia_one PySem.W.kitx_none I.kIn True.intro e (fun z => nomatch z) h
  | bl y => cases (show u = Value.bool y from rx); exact PySem.W.kia_one PySem.W.kitx_bool I.kIn True.intro e (fun z => nomatch z) h
  | int i => obtain ⟨t, q⟩ := (show ∃ t, u = Value.int i t from rx); cases q; exact PySem.W.kia_one PySem.W.kitx_int I.kIn True.intro e (fun z => nomatch z) h
  | str y => obtain ⟨t, q⟩ := (show ∃ t, u = Value.str y t from rx); cases q; exact PySem.W.kia_one PySem.W.kitx_str I.kIn True.intro e (fun z => nomatch z) h
  | flt y => obtain ⟨t, q⟩ := (show ∃ t, u = Value.float y t from rx); cases q; exact PySem.W.kia_one PySem.W.kitx_float I.kIn True.intro e (fun z => nomatch z) h
  | @lst a xs ea =>
    cases (show u = Value.ref a from rx)
    obtain ⟨_, _, n, _, h1⟩ := (show ObjOk X.prog X.w H s.heap a (.lst xs) from I.hok a _ ea)
    exact PySem.W.kia_one PySem.W.kitx_list I.kIn ⟨_, h1, rfl⟩ e (fun z => nomatch z) h
  | @frz a ob xs ea =>
    cases (show u = Value.ref a from rx)
    obtain ⟨_, _, _, n, _, h1⟩ := (show ObjOk X.prog X.w H s.heap a (.frz ob (.lst xs)) from I.hok a _ ea)
    exact PySem.W.kia_one PySem.W.kitx_list I.kIn ⟨_, h1, rfl⟩ e (fun z => nomatch z) h
  | @tup a xs ea =>
    cases (show u = Value.ref a from rx)
    obtain ⟨_, _, _, p⟩ := (show ObjOk X.prog X.w H s.heap a (.tup xs) from I.hok a _ ea)
    obtain ⟨o, h1, h2, _⟩ := p
    exact PySem.W.kia_one PySem.W.kitx_tuple I.kIn ⟨o, h1, h2⟩ e (fun z => nomatch z) h
  | @dK a kvs ea =>
    cases (show u = Value.ref a from rx)
    obtain ⟨_, _, vs, _, p⟩ := (show ObjOk X.prog X.w H s.heap a (.dK kvs) from I.hok a _ ea)
    obtain ⟨o, es, ep, h1, h2, _⟩ := p
    exact PySem.W.kia_one PySem.W.kitx_dict I.kIn ⟨o, h1, h2.1⟩ e (fun z => nomatch z) h
  | @dT a kvs ea =>
    cases (show u = Value.ref a from rx)
    obtain ⟨_, _, xs, _, o, es, ep, h1, h2, _⟩ := (show ObjOk X.prog X.w H s.heap a (.dT kvs) from I.hok a _ ea)
    exact PySem.W.kia_one PySem.W.kitx_dict I.kIn ⟨o, h1, h2.1⟩ e (fun z => nomatch z) h
  | @ins a C dx fs ea cl ha hn htk hm =>
    cases (show u = Value.ref a from rx)
    obtain ⟨mA, O, _⟩ := ins_get I.hok ea
    obtain ⟨od, J, _⟩ := O.look
    exact PySem.W.kia_one (PySem.W.kitx_own (cl.get _) cl.hd ha hn htk hm) I.kIn J e (fun z => nomatch z) h
end
end L2
namespace L2
open PySem PySem.Spec PyProof.Rows
structure Room (k : Nat) (A : Around) : Prop where
  hd : A.handled = none
  dp : A.depth + 3 * k + 5 < recursionLimit
  un : A.units + 16 * k + 200 < cLine
  gd : A.guards = some [] := by rfl
theorem Room.mono {j k : Nat} {A : Around} (r : Room k A) (h : j ≤ k) : Room j A := ⟨r.hd, by have := r.dp; omega, by have := r.un; omega, r.gd⟩
theorem Room.deeper {k : Nat} {A : Around} (r : Room (k + 1) A) (env : Env) : Room k (A.deeper env) :=
  ⟨r.hd, by have := r.dp; show A.depth + 1 + 3 * k + 5 < _; omega, by have := r.un; show A.units + 3 + 16 * k + 200 < _; omega, r.gd⟩
theorem Room.in1 {k : Nat} {A : Around} (r : Room (k + 1) A) : Room k A.in1 :=
  ⟨r.hd, by have := r.dp; show A.depth + 3 * k + 5 < _; omega, by have := r.un; show A.units + 1 + 16 * k + 200 < _; omega, r.gd⟩
theorem Room.depth {k : Nat} {A : Around} (r : Room k A) : A.depth < recursionLimit := by have := r.dp; omega
theorem Room.units {k : Nat} {A : Around} (r : Room k A) : A.units + 64 < cLine := by have := r.un; omega
def tNil : TA := fun _ H Q => Q [] H
def tCons (ta : TE) (tr : TA) : TA := fun σ H Q => ta σ H fun x H1 => tr σ H1 fun xs H2 => Q (x :: xs) H2
section
variable {X : Cx} {e : Expr} {es : List Expr} {te : TE} {t : TA} {pos : Pos}
theorem pa_nil : PA X [] tNil := fun _ _ _ _ H Q I h => Calls.spliced_nil ⟨[], H, I, .nil, h⟩
theorem pa_cons (ha : PE X e te) (hr : PA X es t) (hs : starEach (e :: es) X.env = (false, eval e X.env) :: starEach es X.env := by rfl) : PA X (e :: es) (tCons te t) := by
  intro pos pins s σ H Q I h
  rw [hs]
  show wpAny _ _ (spliced ((false, eval e X.env) :: backTo pos (starEach es X.env))) _ _ s
  refine Calls.spliced_cons (thn (ha pins s σ H _ I h) fun u s1 ⟨x, H1, I1, r1, q1⟩ => ?_)
  exact thn (hr pos pins s1 σ H1 _ I1 q1) fun us s2 ⟨xs, H2, I2, r2, q2⟩ => ⟨x :: xs, H2, I2, .cons r1 r2, q2⟩
end
abbrev Sp := List V → Hp → VK → XK → Prop
abbrev CXT := List Env → Hp → Shared → XK → Value → Shared → Prop
structure Env0 (P : Program) (w : World) (K : PySem.W.Frag) (mg : Str → Option Value) (base : Heap) (A : Around) (outer : List Env) (s : Shared) (H : Hp) : Prop where
  frames : A.frames = some outer
  mod : Mod K mg base
  bs : ∀ b o, base.get? b = some o → s.heap.get? b = some o ∧ H b = none
  bsz : base.objs.size ≤ s.heap.objs.size
  funs : s.heap.FunFrames base outer
  frf : ∀ b ∈ frs outer, H b = none
  hok : HOk P w H s.heap
  bare : AllBare s.gens
def CE (outer : List Env) (P : Program) (w : World) (H : Hp) (s : Shared) (Q : VK) (u : Value) (s' : Shared) : Prop :=
  ∃ v H', s'.os = s.os ∧ AllBare s'.gens ∧ Un (frs outer) [] H H' s.heap s'.heap ∧ HOk P w H' s'.heap ∧ RelV v u ∧ Q v H'
def CR (CX : CXT) (outer : List Env) (P : Program) (w : World) (H : Hp) (s : Shared) (Q : VK) (E : XK) (r : Result) (s' : Shared) : Prop :=
  match r with
  | .ok (.ret u) => CE outer P w H s Q u s'
  | .ok _ => False
  | .error e => CX outer H s E e s'
structure FnOk (P : Program) (w : World) (K : PySem.W.Frag) (mg : Str → Option Value) (base : Heap) (CX : CXT) (k : Nat) (f : Addr) (fd : FuncData) (ps : List Str) (sp : Sp) : Prop where
  len : ∀ vs H Q E, sp vs H Q E → vs.length = ps.length
  run : ∀ (A : Around) (outer : List Env) (s : Shared) (H : Hp) (args : Args) (us : List Value) (vs : List V) (Q : VK) (E : XK), Room k A → Env0 P w K mg base A outer s H → BindsTo s fd args (ps.zip us) → Vals vs us → sp vs H Q E →
    codeAny (model P w) A (.call (.ref f) args) (CR CX outer P w H s Q E) s
theorem FnOk.mono {P : Program} {w : World} {K : PySem.W.Frag} {mg : Str → Option Value} {base : Heap} {CX : CXT} {j k : Nat} {f : Addr} {fd : FuncData} {ps : List Str} {sp : Sp} (F : FnOk P w K mg base CX j f fd ps sp) (h : j ≤ k) :
    FnOk P w K mg base CX k f fd ps sp := ⟨F.len, fun A outer s H args us vs Q E hr => F.run A outer s H args us vs Q E (hr.mono h)⟩
theorem FnOk.imp {P : Program} {w : World} {K : PySem.W.Frag} {mg : Str → Option Value} {base : Heap} {CX : CXT} {k : Nat} {f : Addr} {fd : FuncData} {ps : List Str} {sp sp' : Sp} (F : FnOk P w K mg base CX k f fd ps sp)
    (h : ∀ vs H Q E, sp' vs H Q E → sp vs H Q E) : FnOk P w K mg base CX k f fd ps sp' :=
  ⟨fun vs H Q E q => F.len vs H Q E (h _ _ _ _ q), fun A outer s H args us vs Q E hr he hb hv hs => F.run A outer s H args us vs Q E hr he hb hv (h _ _ _ _ hs)⟩
theorem Env0.in1 {P : Program} {w : World} {K : PySem.W.Frag} {mg : Str → Option Value} {base : Heap} {A : Around} {outer : List Env} {s : Shared} {H : Hp} (e : Env0 P w K mg base A outer s H) :
    Env0 P w K mg base A.in1 outer s H := ⟨e.frames, e.mod, e.bs, e.bsz, e.funs, e.frf, e.hok, e.bare⟩
section
variable {X : Cx} {pins : List (Addr × Obj)} {σ : St} {H : Hp} {s s' : Shared}
theorem Inv.env0 (I : Inv X pins σ H s) : Env0 X.prog X.w X.K X.mg X.base X.A X.stack s H :=
  ⟨I.ok.frames, I.ok.mod, I.bs, Nat.le_trans I.ok.bsz I.sz, I.stack, I.stkFree, I.hok, I.bare⟩
theorem Inv.after {Q : VK} {u : Value} (I : Inv X pins σ H s) (h : CE X.stack X.prog X.w H s Q u s') : EP X pins σ Q u s' := by
  obtain ⟨v, H', os, bare, un, hok, r, q⟩ := h
  obtain ⟨hh, g, d, t, os'⟩ := s'
  obtain rfl : os' = s.os := os
  exact ⟨v, H', I.call (h' := hh) (g' := g) (d' := d) (t' := t) (ch := []) un hok bare (fun b z => absurd z (by simp)), r, q⟩
end
def tCall (sp : Sp) (dvs : List V) (E : XK) (t : TA) : TE := fun σ H Q => t σ H fun vs H1 => sp (vs ++ dvs) H1 Q E
def Binds (K : PySem.W.Frag) (fd : FuncData) (ps : List Str) (ds : List Value) : Prop :=
  ∀ (s : Shared) (us : List Value), K.In s.heap → (us ++ ds).length = ps.length → BindsTo s fd ⟨us, []⟩ (ps.zip (us ++ ds))
theorem Binds.all {K : PySem.W.Frag} {fd : FuncData} {ps : List Str} (h : ∀ us : List Value, us.length = ps.length → bindArgs fd ⟨us, []⟩ = pure (ps.zip us)) : Binds K fd ps [] := fun s us _ hl => by
  rw [List.append_nil] at hl ⊢
  exact .of_eq (h us hl)
def Passes (CX : CXT) (X : Cx) (E : XK) : Prop := ∀ (pins : List (Addr × Obj)) (σ : St) (H : Hp) (s : Shared) (e : Value) (s' : Shared), Inv X pins σ H s → CX X.stack H s E e s' → X.xe e s'
section
variable {X : Cx} {CX : CXT} {k : Nat} {f C : Addr} {fd : FuncData} {ps : List Str} {sp : Sp} {dvs : List V} {ds : List Value} {E : XK} {x m : Str} {p pos apos : Pos} {e o : Expr} {es : List Expr} {ta : TE} {t : TA}
theorem run_fn {pins : List (Addr × Obj)} {σ : St} {H : Hp} {s : Shared} {Q : VK} {us : List Value} {vs : List V} (F : FnOk X.prog X.w X.K X.mg X.base CX k f fd ps sp) (hr : Room k X.A) (hb : Binds X.K fd ps ds) (hd : Vals dvs ds) (hx : Passes CX X E)
    (I : Inv X pins σ H s) (r : Vals vs us) (h : sp (vs ++ dvs) H Q E) : wpAny (model X.prog X.w) X.A (call (.ref f) us) (EP X pins σ Q) X.xe s := by
  have r2 : Vals (vs ++ dvs) (us ++ ds) := r.append hd
  have hl : (us ++ ds).length = ps.length := by rw [← r2.length]; exact F.len _ _ _ _ h
  refine wpAny_call (codeAny_mono (F.run X.A X.stack s H ⟨us, []⟩ (us ++ ds) (vs ++ dvs) Q E hr I.env0 (hb s us I.kIn hl) r2 h) fun r s' hq => ?_)
  cases r with
  | error e => exact hx pins σ H s e s' I hq
  | ok fl =>
    cases fl with
    | ret u => exact I.after hq
    | next => exact False.elim hq
    | brk => exact False.elim hq
    | cont => exact False.elim hq
theorem pe_call (F : FnOk X.prog X.w X.K X.mg X.base CX k f fd ps sp) (hr : Room k X.A) (hg : Gl X x) (hm : X.mg x = some (.ref f)) (hk : PySem.W.keepIn X.K (.ref f) = true) (hb : Binds X.K fd ps ds) (hd : Vals dvs ds) (hx : Passes CX X E)
    (ha : PA X (e :: es) t) (hdb : (x == ("__debug__" : Str)) = false := by decide) (he : starEach (e :: es) X.env = (false, eval e X.env) :: starEach es X.env := by rfl) (hpl : (backTo pos (starEach es X.env)).any (·.1) = false := by rfl) :
    PE X (.Call (.Name x p) (e :: es) [] pos) (tCall sp dvs E t) := by
  intro pins s σ H Q I h
  refine wpAny_Call_Name_kw (ld_glob I hg hm ?_ hdb)
  refine PySem.W.callWith_K (h₀ := X.base) I.ok.mod.kin hk (thn (ha pos pins s σ H _ I h) fun us s1 ⟨vs, H1, I1, r, q⟩ => ⟨I1.kIn, ?_⟩) he hpl
  exact run_fn F hr hb hd hx I1 r q
end
section
variable {X : Cx} {CX : CXT} {k : Nat} {f C : Addr} {fd : FuncData} {ps ks : List Str} {sp : Sp} {E : XK} {x m : Str} {p pos apos kpos : Pos} {e o : Expr} {es : List Expr} {kws : List Keyword} {te ta : TE} {t tk : TA} {nm : Option Str}
variable {g : List Value → List Value → List Value} {gV : List V → List V → List V}
end
structure FnScope (N P : List Str) (sc : Scope) : Prop where
  kind : sc.kind = .function
  co : sc.isCoroutine = false
  gen : sc.isGenerator = false
  nd : N.Nodup
  pre : N.take P.length = P
  par : ∀ x ∈ P, sc.names.lookup x = some .local ∨ sc.names.lookup x = some .cell
  nofree : ∀ y ∈ sc.names, y.2 ≠ .free
theorem bindL_out {kindOf : Str → Option NameKind} {x : Str} : ∀ {binds : List (Str × Value)} {m : Str → Option Value}, (∀ v, (x, v) ∉ binds) → bindL kindOf binds m x = m x
  | [], _, _ => rfl
  | (n, v) :: r, m, h => by
    unfold bindL
    rw [bindL_out fun w hw => h w (List.mem_cons_of_mem _ hw)]
    split
    · have : x ≠ n := by rintro rfl; exact h v List.mem_cons_self
      simp [this]
    · rfl
theorem bindC_out {kindOf : Str → Option NameKind} {x : Str} : ∀ {binds : List (Str × Value)} {m : Str → Option Value}, (∀ v, (x, v) ∉ binds) → bindC kindOf binds m x = m x
  | [], _, _ => rfl
  | (n, v) :: r, m, h => by
    unfold bindC
    rw [bindC_out fun w hw => h w (List.mem_cons_of_mem _ hw)]
    split
    · rfl
    · have : x ≠ n := by rintro rfl; exact h v List.mem_cons_self
      simp [this]
theorem bindL_get {kindOf : Str → Option NameKind} {x : Str} {v : Value} : ∀ {P : List Str} {vs : List Value} {i : Nat} {m : Str → Option Value}, P.Nodup → P[i]? = some x → vs[i]? = some v → kindOf x = some .local →
    bindL kindOf (P.zip vs) m x = some v
  | [], _, _, _, _, h, _, _ => by simp at h
  | _ :: _, [], _, _, _, _, h, _ => by simp at h
  | p :: P, w :: vs, 0, m, nd, h1, h2, hk => by
    simp at h1 h2; subst h1; subst h2
    show bindL kindOf ((p, w) :: P.zip vs) m p = _
    unfold bindL
    rw [bindL_out fun v hv => (List.nodup_cons.mp nd).1 (List.of_mem_zip hv).1, if_pos hk]
    simp
  | p :: P, w :: vs, i + 1, m, nd, h1, h2, hk => by
    show bindL kindOf ((p, w) :: P.zip vs) m x = _
    unfold bindL
    exact bindL_get (i := i) (List.nodup_cons.mp nd).2 (by simpa using h1) (by simpa using h2) hk
theorem bindC_get {kindOf : Str → Option NameKind} {x : Str} {v : Value} : ∀ {P : List Str} {vs : List Value} {i : Nat} {m : Str → Option Value}, P.Nodup → P[i]? = some x → vs[i]? = some v → kindOf x ≠ some .local →
    bindC kindOf (P.zip vs) m x = some v
  | [], _, _, _, _, h, _, _ => by simp at h
  | _ :: _, [], _, _, _, _, h, _ => by simp at h
  | p :: P, w :: vs, 0, m, nd, h1, h2, hk => by
    simp at h1 h2; subst h1; subst h2
    show bindC kindOf ((p, w) :: P.zip vs) m p = _
    unfold bindC
    rw [bindC_out fun v hv => (List.nodup_cons.mp nd).1 (List.of_mem_zip hv).1, if_neg hk]
    simp
  | p :: P, w :: vs, i + 1, m, nd, h1, h2, hk => by
    show bindC kindOf ((p, w) :: P.zip vs) m x = _
    unfold bindC
    exact bindC_get (i := i) (List.nodup_cons.mp nd).2 (by simpa using h1) (by simpa using h2) hk
def start (N : List Str) (vs : List V) : St := vs.map some ++ List.replicate (N.length - vs.length) none
def cxOf (CX : CXT) (P : Program) (w : World) (K : PySem.W.Frag) (mg : Str → Option Value) (base : Heap) (N : List Str) (qual : Str) (scope : Scope) (f : Addr) (cd : Value) (A : Around) (outer : List Env) (s : Shared) (H : Hp) (E : XK) : Cx where
  prog := P
  w := w
  K := K
  mg := mg
  base := base
  A := A.deeper (envOfC qual scope s.heap.objs.size f cd)
  N := N
  s₀ := s
  H₀ := H
  env := envOfC qual scope s.heap.objs.size f cd
  outer := outer
  stack := envOfC qual scope s.heap.objs.size f cd :: outer
  ex := []
  calm := true
  fn := fun _ => true
  pn := []
  xe := fun e s' => wpAny (model P w) (A.deeper (envOfC qual scope s.heap.objs.size f cd)) (leaving (envOfC qual scope s.heap.objs.size f cd) e) (fun _ s'' => CX outer H s E e s'') (fun e' s'' => CX outer H s E e' s'') s'
theorem cell_has {sc : Scope} {n : Nat} {x : Str} (h : sc.names.lookup x = some .cell) : ∃ c, (cellsFrom n sc.names []).lookup x = some c := by
  have q := PySem.W.cellsFrom_some sc.names n [] (.inl h)
  exact Option.isSome_iff_exists.mp q
theorem inv_start {CX : CXT} {P : Program} {w : World} {K : PySem.W.Frag} {mg : Str → Option Value} {base : Heap} {N ps : List Str} {qual : Str} {scope : Scope} {f : Addr} {cd : Value} {A : Around} {outer : List Env} {s s1 : Shared} {H : Hp} {E : XK} {us : List Value} {vs : List V}
    (S : FnScope N ps scope) (hd : A.handled = none) (e0 : Env0 P w K mg base A outer s H) (hl : vs.length = ps.length) (r : Vals vs us)
    (x : InCallC s s.heap.objs.size (bindL (envOfC qual scope s.heap.objs.size f cd).kindOf (ps.zip us) fun _ => none) (cellsFrom (s.heap.objs.size + 1) scope.names []) (bindC (envOfC qual scope s.heap.objs.size f cd).kindOf (ps.zip us) fun _ => none) s1) :
    Inv (cxOf CX P w K mg base N qual scope f cd A outer s H E) [] (start N vs) H s1 := by
  have hpl : ps.length ≤ N.length := by have := congrArg List.length S.pre; rw [List.length_take] at this; omega
  obtain ⟨h1, tk, rfl, hk⟩ := x.done
  have noA : ∀ b : Addr, b ∉ (cxOf CX P w K mg base N qual scope f cd A outer s H E).ex := fun b z => absurd (show b ∈ ([] : List Addr) from z) (by simp)
  refine ⟨⟨e0.mod, S.kind, rfl, rfl, Nat.le_refl _, fun y z c h1 h2 => ?_, fun y hy => ?_, fun y c _ h => ?_, fun _ => hd, Around.frames_deeper e0.frames, .inr ⟨rfl, rfl⟩, fun b z => absurd z (noA b), e0.bs, e0.bsz, fun b _ _ => noA b, fun b z => absurd z (noA b), e0.funs, e0.frf⟩,
    rfl, e0.bare, Un.kept hk, ⟨_, x.toInCall.ns, fun i y v h1 h2 h3 => ?_⟩, fun y c h => ⟨_, x.cell y c h⟩, e0.hok.fresh (Nat.le_refl _), fun y c h => ?_, fun p hp => absurd (show p ∈ ([] : List (Addr × Obj)) from hp) (by simp), e0.hok.kept hk, ?_⟩
  · exact name_of_addr x.apart (PySem.mem_of_lookup h1) (PySem.mem_of_lookup h2)
  · have hy : scope.names.lookup y = some .cell ∨ scope.names.lookup y = some .free := hy
    rcases hy with hy | hy
    · exact cell_has hy
    · exact absurd rfl (S.nofree _ (PySem.mem_of_lookup hy))
  · exact Nat.le_of_lt (x.above y c (PySem.mem_of_lookup h))
  · have hi : i < vs.length := by
      unfold start at h2
      by_cases hi : i < vs.length
      · exact hi
      · rw [List.getElem?_append_right (by simpa using hi)] at h2
        rw [List.getElem?_replicate] at h2
        split at h2 <;> cases h2
    have ha : vs[i]? = some v := by
      unfold start at h2
      rw [List.getElem?_append_left (by simpa using hi), List.getElem?_map] at h2
      cases e : vs[i]? with
      | none => rw [e] at h2; cases h2
      | some a => rw [e] at h2; cases h2; rfl
    obtain ⟨u, hu, rv⟩ := r.get ha
    have hp : ps[i]? = some y := by
      rw [← S.pre, List.getElem?_take_of_lt (by omega)]; exact h1
    have ndP : ps.Nodup := by rw [← S.pre]; exact S.nd.sublist (List.take_sublist _ _)
    refine ⟨u, rv, ?_⟩
    rcases S.par y (List.mem_of_getElem? hp) with k | k
    · exact .inl ⟨k, bindL_get ndP hp hu k⟩
    · obtain ⟨c, e⟩ := cell_has (n := s.heap.objs.size + 1) k
      refine .inr ⟨.inl k, c, e, ?_⟩
      have q := x.cell y c e
      rw [bindC_get ndP hp hu (by show scope.names.lookup y ≠ _; rw [k]; decide)] at q
      exact q
  · exact e0.hok.fresh (Nat.le_of_lt (x.above y c (PySem.mem_of_lookup h)))
  · unfold start
    show _ = N.length
    rw [List.length_append, List.length_map, List.length_replicate]
    omega
theorem fn_of {CX : CXT} {P : Program} {w : World} {K : PySem.W.Frag} {mg : Str → Option Value} {base : Heap} {k : Nat} {f : Addr} {name qual : Str} {params : Arguments} {body : List Stmt} {scope : Scope} {dV kV doc pm cdv ct oc : Value} {an od : Option Addr}
    {osl : Array (Option Value)} {N ps : List Str} {sp : Sp} (lk : K.lookup f = some ⟨oc, od, .func (PySem.W.fnOf name qual params body scope dV kV doc pm an cdv ct), osl⟩) (hcd : PySem.W.codeIn K cdv qual = true) (S : FnScope N ps scope)
    (len : ∀ vs H Q E, sp vs H Q E → vs.length = ps.length)
    (hbody : ∀ (A : Around) (outer : List Env) (s : Shared) (H : Hp) (vs : List V) (Q : VK) (E : XK), Room k (A.deeper (envOfC qual scope s.heap.objs.size f cdv)) → sp vs H Q E →
      ∃ t, PSs (cxOf CX P w K mg base N qual scope f cdv A outer s H E) body t ∧ t { nx := fun _ H' => Q .non H', rt := Q } (start N vs) H) :
    FnOk P w K mg base CX (k + 1) f (PySem.W.fnOf name qual params body scope dV kV doc pm an cdv ct) ps sp := by
  refine ⟨len, fun A outer s H args us vs Q E hr e0 hb r hsp => ?_⟩
  have hl := len _ _ _ _ hsp
  have KX : K.In s.heap := e0.mod.kin.keeps fun b o e => (e0.bs b o e).1
  have lim : s.heap.NoLimit := e0.mod.nolimit.keeps fun b o e => (e0.bs b o e).1
  have hkind : ∀ y ∈ ps.zip us, scope.names.lookup y.1 = some .local ∨ (scope.names.lookup y.1 = some .cell ∧ ((cellsFrom (s.heap.objs.size + 1) scope.names []).lookup y.1).isSome = true) := fun ⟨n, v⟩ hy => by
    rcases S.par n (List.of_mem_zip hy).1 with q | q
    · exact .inl q
    · exact .inr ⟨q, PySem.W.cellsFrom_some _ _ _ (.inl q)⟩
  refine codeAny_call_function hr.depth (KX _ _ lk) rfl S.co S.gen rfl (PySem.W.codeRec_of KX hcd) (hb _ _ _ _ ?_)
  refine wpAny_newFunctionEnv_cells S.kind hkind fun env he s1 x => ?_
  subst he
  refine ⟨lim.keeps x.toInCall.keep, codeAny_func ?_⟩
  obtain ⟨t, ht, hq⟩ := hbody A outer s H vs Q E (hr.deeper _) hsp
  have I : Inv (cxOf CX P w K mg base N qual scope f cdv A outer s H E) [] (start N vs) H s1 := inv_start S hr.hd e0 hl r x
  refine wpAny_mono (ht [] s1 (start N vs) H _ I hq) (fun fl s' hs => ?_) fun e s' hs => hs
  have fin : ∀ {σ' : St} {H' : Hp} {v : V} {u : Value}, Inv (cxOf CX P w K mg base N qual scope f cdv A outer s H E) [] σ' H' s' → RelV v u → Q v H' → CE outer P w H s Q u s' :=
    fun {σ' H' v u} J rv q => ⟨v, H', J.os, J.bare, J.base, J.hok, rv, q⟩
  cases fl with
  | ret u =>
    obtain ⟨v, σ', H', J, rv, q⟩ := hs
    exact fin J rv q
  | next =>
    obtain ⟨σ', H', J, q⟩ := hs
    exact fin (v := V.non) (u := Value.none) J rfl q
  | brk =>
    obtain ⟨_, _, _, q⟩ := hs
    exact False.elim q
  | cont =>
    obtain ⟨_, _, _, q⟩ := hs
    exact False.elim q
end L2
namespace L2
open PySem PySem.Spec PyProof.Rows
section
variable {X : Cx} {x : Str} {p pos : Pos} {e : Expr} {es : List Expr} {t : TA} {id T : String} {r : List V → Hp → VK → Prop}
def tCB (r : List V → Hp → VK → Prop) (t : TA) : TE := fun σ H Q => t σ H fun vs H1 => r vs H1 Q
theorem pe_callB (hc : CallR X (.builtin id) r) (hg : Gl X x) (hm : X.mg x = none) (hv : bootBuiltins x = some (.builtin id)) (ha : PA X (e :: es) t) (hn : x ≠ "__name__" := by decide) (hdb : (x == ("__debug__" : Str)) = false := by decide)
    (he : starEach (e :: es) X.env = (false, eval e X.env) :: starEach es X.env := by rfl) (hpl : (backTo pos (starEach es X.env)).any (·.1) = false := by rfl) : PE X (.Call (.Name x p) (e :: es) [] pos) (tCB r t) := by
  intro pins s σ H Q I h
  refine wpAny_Call_Name_kw (ld_blt I hg hm hv ?_ hn hdb)
  exact PyProof.Rows.callWith_builtin1 (thn (ha pos pins s σ H _ I h) fun us s1 ⟨vs, H1, I1, r1, q1⟩ => hc pins s1 σ H1 vs us Q I1 r1 q1) he hpl
theorem pe_callTy (hc : CallR X (.type T) r) (hg : Gl X x) (hm : X.mg x = none) (hv : bootBuiltins x = some (.type T)) (ha : PA X (e :: es) t) (hn : x ≠ "__name__" := by decide) (hdb : (x == ("__debug__" : Str)) = false := by decide)
    (he : starEach (e :: es) X.env = (false, eval e X.env) :: starEach es X.env := by rfl) (hpl : (backTo pos (starEach es X.env)).any (·.1) = false := by rfl) : PE X (.Call (.Name x p) (e :: es) [] pos) (tCB r t) := by
  intro pins s σ H Q I h
  refine wpAny_Call_Name_kw (ld_blt I hg hm hv ?_ hn hdb)
  exact PyProof.Rows.callWith_type1 (thn (ha pos pins s σ H _ I h) fun us s1 ⟨vs, H1, I1, r1, q1⟩ => hc pins s1 σ H1 vs us Q I1 r1 q1) he hpl
end
end L2
namespace L2
open PySem PySem.Spec PyProof.Rows
section
variable {κ : Type} [DecidableEq κ]
def valV (kvs : List (κ × V)) (k : κ) : Option V := (kvs.find? fun kv => decide (kv.1 = k)).map (·.2)
def putK (kvs : List (κ × V)) (k : κ) (v : V) : List (κ × V) :=
  if (kvs.any fun kv => decide (kv.1 = k)) = true then kvs.map (fun kv => if kv.1 = k then (kv.1, v) else kv) else kvs ++ [(k, v)]
def dropK (kvs : List (κ × V)) (k : κ) : List (κ × V) := kvs.filter fun kv => decide (kv.1 ≠ k)
theorem valV_pos {p : κ × V} {r : List (κ × V)} {k : κ} (e : p.1 = k) : valV (p :: r) k = some p.2 := by simp [valV, List.find?_cons, e]
theorem valV_neg {p : κ × V} {r : List (κ × V)} {k : κ} (e : ¬ p.1 = k) : valV (p :: r) k = valV r k := by simp [valV, List.find?_cons, e]
theorem valV_any (k : κ) : ∀ kvs : List (κ × V), (kvs.any fun kv => decide (kv.1 = k)) = (valV kvs k).isSome
  | [] => rfl
  | p :: r => by
    rw [List.any_cons]
    by_cases e : p.1 = k
    · simp only [valV_pos e, decide_eq_true e, Bool.true_or, Option.isSome_some]
    · rw [valV_neg e, decide_eq_false e, Bool.false_or]; exact valV_any k r
theorem putK_new {kvs : List (κ × V)} {k : κ} (v : V) (h : valV kvs k = none) : putK kvs k v = kvs ++ [(k, v)] := by
  unfold putK
  rw [valV_any, h]
  exact if_neg (by decide)
theorem RelO.isSome_eq {o : Option V} {u : Option Value} (r : RelO o u) : o.isSome = u.isSome := by
  cases o with
  | none => cases u with
    | none => rfl
    | some _ => exact (show False from r).elim
  | some _ => cases u with
    | none => exact (show False from r).elim
    | some _ => rfl
theorem RelO.getD {o : Option V} {u : Option Value} {d : V} {d' : Value} (r : RelO o u) (rd : RelV d d') : RelV (o.getD d) (u.getD d') := by
  cases o with
  | none => cases u with
    | none => exact rd
    | some _ => exact (show False from r).elim
  | some _ => cases u with
    | none => exact (show False from r).elim
    | some _ => exact r
theorem KV.val {kvs : List (κ × V)} {vs : List (κ × Value)} (r : KV kvs vs) (k : κ) : RelO (valV kvs k) (valueAt vs k) := by
  unfold KV at r
  induction r with
  | nil => exact True.intro
  | @cons p q ps qs h t ih =>
    obtain ⟨h1, h2⟩ := h
    by_cases e : p.1 = k
    · have e' : q.1 = k := h1.symm.trans e
      have b : valueAt (q :: qs) k = some q.2 := by simp [valueAt, List.find?_cons, e']
      rw [valV_pos e, b]; exact h2
    · have e' : ¬ q.1 = k := fun z => e (h1.trans z)
      have b : valueAt (q :: qs) k = valueAt qs k := by simp [valueAt, List.find?_cons, e']
      rw [valV_neg e, b]; exact ih
theorem KV.any {kvs : List (κ × V)} {vs : List (κ × Value)} (r : KV kvs vs) (k : κ) : (kvs.any fun kv => decide (kv.1 = k)) = vs.any fun kv => decide (kv.1 = k) := by
  unfold KV at r
  induction r with
  | nil => rfl
  | cons h t ih => rw [List.any_cons, List.any_cons, ih, h.1]
theorem KV.repl {kvs : List (κ × V)} {vs : List (κ × Value)} (r : KV kvs vs) (k : κ) {y : V} {u : Value} (ry : RelV y u) :
    KV (kvs.map fun kv => if kv.1 = k then (kv.1, y) else kv) (vs.map fun kv => if kv.1 = k then (kv.1, u) else kv) := by
  unfold KV at r ⊢
  induction r with
  | nil => exact .nil
  | @cons p q ps qs h t ih =>
    rw [List.map_cons, List.map_cons]
    refine .cons ?_ ih
    obtain ⟨h1, h2⟩ := h
    by_cases e : p.1 = k
    · rw [if_pos e, if_pos (h1.symm.trans e)]; exact ⟨h1, ry⟩
    · rw [if_neg e, if_neg (fun z => e (h1.trans z))]; exact ⟨h1, h2⟩
theorem KV.put {kvs : List (κ × V)} {vs : List (κ × Value)} (r : KV kvs vs) (k : κ) {y : V} {u : Value} (ry : RelV y u) : KV (putK kvs k y) (stored vs k u) := by
  unfold putK stored
  rw [r.any k]
  by_cases e : (vs.any fun kv => decide (kv.1 = k)) = true
  · rw [if_pos e, if_pos e]; exact r.repl k ry
  · rw [if_neg e, if_neg e]; exact Paired.snoc r ⟨rfl, ry⟩
theorem KV.drop {kvs : List (κ × V)} {vs : List (κ × Value)} (r : KV kvs vs) (k : κ) : KV (dropK kvs k) (without vs k) := by
  unfold KV at r ⊢
  unfold dropK without
  induction r with
  | nil => exact .nil
  | @cons p q ps qs h t ih =>
    obtain ⟨h1, h2⟩ := h
    rw [List.filter_cons, List.filter_cons]
    by_cases e : p.1 = k
    · have a : ¬ decide (p.1 ≠ k) = true := by simp [e]
      have b : ¬ decide (q.1 ≠ k) = true := by simp [h1.symm.trans e]
      rw [if_neg a, if_neg b]; exact ih
    · have e' : ¬ q.1 = k := fun z => e (h1.trans z)
      have a : decide (p.1 ≠ k) = true := by simp [e]
      have b : decide (q.1 ≠ k) = true := by simp [e']
      rw [if_pos a, if_pos b]; exact .cons ⟨h1, h2⟩ ih
theorem KV.keys {kvs : List (κ × V)} {vs : List (κ × Value)} (r : KV kvs vs) : kvs.map (·.1) = vs.map (·.1) := by
  unfold KV at r
  induction r with
  | nil => rfl
  | cons h t ih => rw [List.map_cons, List.map_cons, ih, h.1]
theorem KV.length {kvs : List (κ × V)} {vs : List (κ × Value)} (r : KV kvs vs) : kvs.length = vs.length := Paired.length r
end
abbrev KT (H : Hp) : List (List Key × V) → List (List Key × Addr × Value) → Prop := Paired fun p q => p.1 = q.1 ∧ H q.2.1 = some (.tup (p.1.map kV)) ∧ RelV p.2 q.2.2
theorem KT.val {H : Hp} {kvs : List (List Key × V)} {xs : List (List Key × Addr × Value)} (r : KT H kvs xs) (k : List Key) : RelO (valV kvs k) ((atKey xs k).map (·.2)) := by
  induction r with
  | nil => exact True.intro
  | @cons p q ps qs h t ih =>
    obtain ⟨h1, _, h2⟩ := h
    by_cases e : p.1 = k
    · have e' : q.1 = k := h1.symm.trans e
      have b : atKey (q :: qs) k = some q.2 := by simp [atKey, List.find?_cons, e']
      rw [valV_pos e, b]; exact h2
    · have e' : ¬ q.1 = k := fun z => e (h1.trans z)
      have b : atKey (q :: qs) k = atKey qs k := by simp [atKey, List.find?_cons, e']
      rw [valV_neg e, b]; exact ih
theorem KT.repl {H : Hp} {kvs : List (List Key × V)} {xs : List (List Key × Addr × Value)} (r : KT H kvs xs) (k : List Key) {y : V} {u : Value} (ry : RelV y u) :
    KT H (kvs.map fun kv => if kv.1 = k then (kv.1, y) else kv) (xs.map (putAt k u)) := by
  induction r with
  | nil => exact .nil
  | @cons p q ps qs h t ih =>
    rw [List.map_cons, List.map_cons]
    refine .cons ?_ ih
    obtain ⟨h1, h2, h3⟩ := h
    unfold putAt
    by_cases e : p.1 = k
    · rw [if_pos e, if_pos (h1.symm.trans e)]; exact ⟨h1, h2, ry⟩
    · rw [if_neg e, if_neg (fun z => e (h1.trans z))]; exact ⟨h1, h2, h3⟩
theorem KT.put {H : Hp} {kvs : List (List Key × V)} {xs : List (List Key × Addr × Value)} (r : KT H kvs xs) (k : List Key) {b : Addr} {y : V} {u : Value} (hb : H b = some (.tup (k.map kV))) (ry : RelV y u) :
    KT H (putK kvs k y) (storedH xs k b u) := by
  have e : (kvs.any fun kv => decide (kv.1 = k)) = (atKey xs k).isSome := by
    rw [valV_any, (r.val k).isSome_eq, Option.isSome_map]
  unfold putK storedH
  rw [e]
  by_cases q : (atKey xs k).isSome = true
  · rw [if_pos q, if_pos q]; exact r.repl k ry
  · rw [if_neg q, if_neg q]; exact Paired.snoc r ⟨rfl, hb, ry⟩
theorem KT.keeps {H H' : Hp} {kvs : List (List Key × V)} {xs : List (List Key × Addr × Value)} (r : KT H kvs xs) (ht : ∀ b ys, H b = some (.tup ys) → H' b = some (.tup ys)) : KT H' kvs xs :=
  Paired.mapP r fun _ _ z => ⟨z.1, ht _ _ z.2.1, z.2.2⟩
section
variable {P : Program} {w : World} {H : Hp} {h : Heap} {a : Addr}
end
def DGet (H : Hp) (a : Addr) (y : V) (r : Option V) : Prop :=
  (∃ kvs k, Rd H a (.dK kvs) ∧ y = kV k ∧ r = valV kvs k) ∨ ∃ kvs k b, Rd H a (.dT kvs) ∧ y = .ref b ∧ H b = some (.tup (k.map kV)) ∧ r = valV kvs k
def DPut (H : Hp) (a : Addr) (y v : V) (H' : Hp) : Prop :=
  (∃ kvs k, H a = some (.dK kvs) ∧ y = kV k ∧ kvs.length < sizeLine ∧ H' = upd H a (.dK (putK kvs k v))) ∨
  ∃ kvs k b, H a = some (.dT kvs) ∧ y = .ref b ∧ H b = some (.tup (k.map kV)) ∧ kvs.length < sizeLine ∧ H' = upd H a (.dT (putK kvs k v))
theorem DGet.k {H : Hp} {a : Addr} {kvs : List (Key × V)} {k : Key} (e : H a = some (.dK kvs)) : DGet H a (kV k) (valV kvs k) := .inl ⟨kvs, k, .inl e, rfl, rfl⟩
theorem DGet.t {H : Hp} {a b : Addr} {kvs : List (List Key × V)} {k : List Key} (e : H a = some (.dT kvs)) (eb : H b = some (.tup (k.map kV))) : DGet H a (.ref b) (valV kvs k) := .inr ⟨kvs, k, b, .inl e, rfl, eb, rfl⟩
theorem DPut.k {H : Hp} {a : Addr} {kvs : List (Key × V)} {k : Key} {v : V} (e : H a = some (.dK kvs)) (hl : kvs.length < sizeLine) : DPut H a (kV k) v (upd H a (.dK (putK kvs k v))) := .inl ⟨kvs, k, e, rfl, hl, rfl⟩
theorem DPut.t {H : Hp} {a b : Addr} {kvs : List (List Key × V)} {k : List Key} {v : V} (e : H a = some (.dT kvs)) (eb : H b = some (.tup (k.map kV))) (hl : kvs.length < sizeLine) :
    DPut H a (.ref b) v (upd H a (.dT (putK kvs k v))) := .inr ⟨kvs, k, b, e, rfl, eb, hl, rfl⟩
section
variable {X : Cx} {pins : List (Addr × Obj)} {σ : St} {H : Hp} {s : Shared} {a : Addr} {y v : V} {u r : Value} {o : Option V} {A : Around} {E : Value → Shared → Prop}
end
section
variable {X : Cx} {pins : List (Addr × Obj)} {σ : St} {H : Hp} {s : Shared} {a : Addr} {kvs : List (Key × V)} {k : Key} {u : Value} {A : Around} {E : Value → Shared → Prop}
end
section
variable {X : Cx} {o i e value : Expr} {pos pos' tpos : Pos} {td ty tv : TE}
end
section
variable {X : Cx} {pos : Pos}
end
def tPairs : List (TE × TE) → St → Hp → (List (V × V) → Hp → Prop) → Prop
  | [], _, H, Q => Q [] H
  | (tk, tv) :: r, σ, H, Q => tk σ H fun x H1 => tv σ H1 fun y H2 => tPairs r σ H2 fun ps H3 => Q ((x, y) :: ps) H3
abbrev VV : List (V × V) → List (Value × Value) → Prop := Paired fun p q => RelV p.1 q.1 ∧ RelV p.2 q.2
def PPs (X : Cx) (pos : Pos) (keys : List (Option Expr)) (values : List Expr) (trs : List (TE × TE)) : Prop :=
  ∀ (pins : List (Addr × Obj)) (s : Shared) (σ : St) (H : Hp) (Q : List (V × V) → Hp → Prop), Inv X pins σ H s → tPairs trs σ H Q →
    wpAny (model X.prog X.w) X.A (evalPairs (pairTrees keys values X.env pos)) (fun vs s' => ∃ ps H', Inv X pins σ H' s' ∧ VV ps vs ∧ Q ps H') X.xe s
structure M1 (X : Cx) (o : Expr) (m : Str) (apos : Pos) (e : Expr) (cpos : Pos) : Prop where
  base : attributeBase o m X.env (eval o X.env) = eval o X.env
  few : ((backTo cpos (starEach [e] X.env)).all (fun x => !x.1) && (backToKw cpos (keywordEach [] X.env)).all (fun x => x.1.isSome)
    && decide (([e] : List Expr).length + ([] : List Keyword).length + (if ([] : List Keyword).isEmpty then 0 else 1) < 30)) = true
  line : (apos.endLine == cpos.line) = true
  trees : backTo cpos (starEach [e] X.env) = [(false, eval e X.env)]
structure M2 (X : Cx) (o : Expr) (m : Str) (apos : Pos) (e f : Expr) (cpos : Pos) : Prop where
  base : attributeBase o m X.env (eval o X.env) = eval o X.env
  few : ((backTo cpos (starEach [e, f] X.env)).all (fun x => !x.1) && (backToKw cpos (keywordEach [] X.env)).all (fun x => x.1.isSome)
    && decide (([e, f] : List Expr).length + ([] : List Keyword).length + (if ([] : List Keyword).isEmpty then 0 else 1) < 30)) = true
  line : (apos.endLine == cpos.line) = true
  trees : backTo cpos (starEach [e, f] X.env) = [(false, eval e X.env), (false, eval f X.env)]
section
variable {X : Cx} {pins : List (Addr × Obj)} {σ : St} {H : Hp} {s : Shared} {a : Addr} {y d : V} {u r : Value} {o : Option V} {A : Around} {E : Value → Shared → Prop}
end
section
variable {X : Cx} {o e f : Expr} {apos cpos : Pos} {td ty tx : TE}
end
section
variable {X : Cx} {pins : List (Addr × Obj)} {σ : St} {H : Hp} {s : Shared} {a : Addr} {kvs : List (Key × V)} {A : Around} {E : Value → Shared → Prop}
end
section
variable {X : Cx} {pins : List (Addr × Obj)} {σ : St} {H : Hp} {s : Shared} {a : Addr} {y : V} {u : Value} {A : Around} {E : Value → Shared → Prop}
end
end L2
namespace HT
open PySem PyProof.Rows
section
open PySem.SeqAt
open PySem.AutoSeq1 (wpAny_loadPart')
open PySem.MeetsSeq PySem.MeetsSeq2 PySem.MeetsSeq3
end
section
variable {prog : Program} {w : World} {A : Around} {E : Value → Shared → Prop} {s : Shared}
def sIx (n d : Nat) : Option Int → Nat
  | none => d
  | some v => if v < 0 then (v + (n : Int)).toNat else min v.toNat n
theorem sIx_none (n d : Nat) : sIx n d none = d := rfl
theorem sIx_nat (n d k : Nat) : sIx n d (some (k : Int)) = min k n := by
  show (if (k : Int) < 0 then ((k : Int) + (n : Int)).toNat else min (k : Int).toNat n) = min k n
  rw [if_neg (by omega), Int.toNat_natCast]
end
end HT
namespace L2
open PySem PySem.Spec PyProof.Rows
abbrev TO := St → Hp → (Option Int → Hp → Prop) → Prop
def PO (X : Cx) (e : Option Expr) (t : TO) : Prop :=
  ∀ (pins : List (Addr × Obj)) (s : Shared) (σ : St) (H : Hp) (Q : Option Int → Hp → Prop), Inv X pins σ H s → t σ H Q →
    wpAny (model X.prog X.w) X.A (evalPart e X.env) (fun u s' => ∃ o H', Inv X pins σ H' s' ∧ IsPart u o ∧ Q o H') X.xe s
def tNoPart : TO := fun _ H Q => Q none H
def tPart (t : TE) : TO := fun σ H Q => t σ H fun x H1 => ∃ i, x = .int i ∧ Q (some i) H1
theorem intsAre_of {ns : List Int} : ∀ {us : List Value}, Vals (ns.map V.int) us → IntsAre us ns := by
  induction ns with
  | nil => intro us r; rw [List.map_nil] at r; cases r; exact .nil
  | cons n ns ih =>
    intro us r
    rw [List.map_cons] at r
    cases r with
    | cons r1 r2 =>
      obtain ⟨t, e⟩ := r1
      subst e
      exact .cons n t (ih r2)
section
variable {X : Cx} {e : Expr} {te : TE} {lo hi : Option Expr} {tl th : TO} {pos p2 : Pos}
theorem po_none : PO X none tNoPart := by
  intro pins s σ H Q I h
  rw [evalPart_none]
  exact wpAny_pure ⟨none, H, I, .none, h⟩
theorem po_some (h : PE X e te) : PO X (some e) (tPart te) := by
  intro pins s σ H Q I hw
  rw [evalPart_some]
  refine thn (h pins s σ H _ I hw) fun u s1 ⟨x, H1, I1, r1, q1⟩ => ?_
  obtain ⟨i, rfl, q⟩ := q1
  obtain ⟨t, rfl⟩ := r1
  exact ⟨some i, H1, I1, .int i t, q⟩
def SlR (X : Cx) (r : V → Option Int → Option Int → Hp → VK → Prop) : Prop :=
  ∀ (pins : List (Addr × Obj)) (s : Shared) (σ : St) (H : Hp) (x : V) (v vl vu : Value) (lo hi : Option Int) (sl : Addr) (Q : VK), Inv X pins σ H s → RelV x v → s.heap.IsSliceOf sl vl vu .none → IsPart vl lo → IsPart vu hi → r x lo hi H Q →
    ∃ T id, typeLookup (.type T) "__getitem__" = pure (some (.builtin id)) ∧ s.TypeIs v T ∧ wpAny (model X.prog X.w) X.A (getItem v (.ref sl)) (EP X pins σ Q) X.xe s
theorem SlR.or {r r' : V → Option Int → Option Int → Hp → VK → Prop} (h : SlR X r) (h' : SlR X r') : SlR X (fun x lo hi H Q => r x lo hi H Q ∨ r' x lo hi H Q) := by
  intro pins s σ H x v vl vu lo hi sl Q I rx hs pl pu q
  rcases q with q | q
  · exact h pins s σ H x v vl vu lo hi sl Q I rx hs pl pu q
  · exact h' pins s σ H x v vl vu lo hi sl Q I rx hs pl pu q
def tSl (r : V → Option Int → Option Int → Hp → VK → Prop) (te : TE) (tl th : TO) : TE := fun σ H Q => te σ H fun x H1 => tl σ H1 fun l H2 => th σ H2 fun u H3 => r x l u H3 Q
theorem pe_slice {r : V → Option Int → Option Int → Hp → VK → Prop} (hr : SlR X r) (he : PE X e te) (hl : PO X lo tl) (hu : PO X hi th) : PE X (.Subscript e (.Slice lo hi none p2) pos) (tSl r te tl th) := by
  intro pins s σ H Q I h
  refine Subscript_ (thn (he pins s σ H _ I h) fun v s1 ⟨x, H1, I1, r1, q1⟩ => ?_)
  refine wpAny_Slice (thn (hl pins s1 σ H1 _ I1 q1) fun vl s2 ⟨l, H2, I2, pl, q2⟩ => thn (hu pins s2 σ H2 _ I2 q2) fun vu s3 ⟨u, H3, I3, pu, q3⟩ => ?_)
  rw [evalPart_none]
  refine wpAny_pure ?_
  have I4 : Inv X pins σ H3 { s3 with heap := s3.heap.push { cls := .type "slice", data := .fields #[vl, vu, .none] } } := I3.kept (t' := s3.toks) fun b ob q => Heap.get?_push_of_some _ q
  obtain ⟨T, id, hT, ht, hg⟩ := hr pins { s3 with heap := s3.heap.push { cls := .type "slice", data := .fields #[vl, vu, .none] } } σ H3 x v vl vu l u s3.heap.objs.size Q I4 r1 (Heap.IsSliceOf.new ..) pl pu q3
  show wpAny (model X.prog X.w) X.A (subscriptTail e (.Slice lo hi none p2) v (.ref s3.heap.objs.size)) (EP X pins σ Q) X.xe { s3 with heap := s3.heap.push { cls := .type "slice", data := .fields #[vl, vu, .none] } }
  exact tail_any (ops := [.ref s3.heap.objs.size, v]) ht hT hg (by with_unfolding_all rfl)
def cutV (xs : List V) (lo hi : Option Int) : List V := (xs.drop (HT.sIx xs.length 0 lo)).take (HT.sIx xs.length xs.length hi - HT.sIx xs.length 0 lo)
theorem cutV_length (xs : List V) (lo hi : Option Int) : (cutV xs lo hi).length ≤ xs.length := by
  unfold cutV
  rw [List.length_take, List.length_drop]
  omega
end
end L2
namespace L2
open PySem PySem.Spec PyProof.Rows
def ixN (n : Nat) (i : Int) : Option Nat := if 0 ≤ i then (if i < n then some i.toNat else none) else if -(n : Int) ≤ i then some (i + n).toNat else none
def atI {α : Type} (xs : List α) (i : Int) : Option α := (ixN xs.length i).bind fun j => xs[j]?
theorem ixN_seq {n : Nat} {i : Int} {j : Nat} (h : ixN n i = some j) : seqIndex? i n = some j ∧ j < n ∧ -(n : Int) ≤ i ∧ i < n := by
  unfold ixN at h
  by_cases h0 : 0 ≤ i
  · rw [if_pos h0] at h
    by_cases h1 : i < n
    · rw [if_pos h1] at h
      have e : i.toNat = j := Option.some.inj h
      exact ⟨by rw [seqIndex_of h0 h1, e], by omega, by omega, h1⟩
    · rw [if_neg h1] at h; cases h
  · rw [if_neg h0] at h
    by_cases h1 : -(n : Int) ≤ i
    · rw [if_pos h1] at h
      have e : (i + n).toNat = j := Option.some.inj h
      exact ⟨by rw [seqIndex_neg (by omega) h1, e], by omega, h1, by omega⟩
    · rw [if_neg h1] at h; cases h
theorem atI_get {α : Type} {xs : List α} {i : Int} {v : α} (h : atI xs i = some v) : ∃ j, seqIndex? i xs.length = some j ∧ xs[j]? = some v ∧ j < xs.length ∧ -(xs.length : Int) ≤ i ∧ i < xs.length := by
  unfold atI at h
  cases e : ixN xs.length i with
  | none => rw [e] at h; cases h
  | some j =>
    rw [e] at h
    obtain ⟨h1, h2, h3, h4⟩ := ixN_seq e
    exact ⟨j, h1, h, h2, h3, h4⟩
theorem atI_nat {α : Type} {xs : List α} {j : Nat} {v : α} (h : xs[j]? = some v) : atI xs (j : Int) = some v := by
  have hj : j < xs.length := (List.getElem?_eq_some_iff.mp h).1
  have e : ixN xs.length (j : Int) = some j := by
    unfold ixN
    rw [if_pos (by omega), if_pos (by omega)]; simp
  unfold atI; rw [e]; exact h
def PlainIx (b : Expr) : Prop := ∀ o i, subscripted b false o i = operate [o, i] (getItem o i)
def IxR (X : Cx) (r : R2) : Prop :=
  ∀ (value slice : Expr) (pins : List (Addr × Obj)) (s : Shared) (σ : St) (H : Hp) (x y : V) (v u : Value) (Q : VK), Inv X pins σ H s → RelV x v → RelV y u → r x y H Q →
    subscripted slice false v u = operate [v, u] (getItem v u) → wpAny (model X.prog X.w) X.A (subscriptTail value slice v u) (EP X pins σ Q) X.xe s
def MtR (X : Cx) (id : String) (r : V → List V → Hp → VK → Prop) : Prop :=
  ∀ (pins : List (Addr × Obj)) (s : Shared) (σ : St) (H : Hp) (x : V) (xs : List V) (v : Value) (us : List Value) (Q : VK), Inv X pins σ H s → RelV x v → Vals xs us → r x xs H Q →
    wpAny (model X.prog X.w) X.A (call (.builtin id) (v :: us)) (EP X pins σ Q) X.xe s
section
variable {X : Cx} {a b : Expr} {ta tb : TE} {pos : Pos}
theorem IxR.or {r r' : R2} (h : IxR X r) (h' : IxR X r') : IxR X (fun x y H Q => r x y H Q ∨ r' x y H Q) := by
  intro value slice pins s σ H x y v u Q I rx ry q hs
  rcases q with q | q
  · exact h value slice pins s σ H x y v u Q I rx ry q hs
  · exact h' value slice pins s σ H x y v u Q I rx ry q hs
theorem MtR.or {id : String} {r r' : V → List V → Hp → VK → Prop} (h : MtR X id r) (h' : MtR X id r') : MtR X id (fun x xs H Q => r x xs H Q ∨ r' x xs H Q) := by
  intro pins s σ H x xs v us Q I rx rs q
  rcases q with q | q
  · exact h pins s σ H x xs v us Q I rx rs q
  · exact h' pins s σ H x xs v us Q I rx rs q
theorem pe_ix {r : R2} (hr : IxR X r) (ha : PE X a ta) (hb : PE X b tb) (hs : PlainIx b) : PE X (.Subscript a b pos) (tOp r ta tb) := by
  intro pins s σ H Q I h
  exact Subscript_ (binT ha hb I h fun v u s2 x y H2 I2 rx ry q => hr a b pins s2 σ H2 x y v u Q I2 rx ry q (hs _ _))
def rIxL (K : PySem.W.Frag) : R2 := fun x y H Q => ∃ p xs i v, x = .ref p ∧ y = .int i ∧ SqL K H p xs ∧ atI xs i = some v ∧ Q v H
def rIxT (K : PySem.W.Frag) : R2 := fun x y H Q => ∃ p xs i v, x = .ref p ∧ y = .int i ∧ SqT K H p xs ∧ atI xs i = some v ∧ Q v H
theorem ix_list : IxR X (rIxL X.K) := by
  intro value slice pins s σ H x y v u Q I rx ry h hs
  obtain ⟨p, xs, i, z, rfl, rfl, hq, he, q⟩ := h
  cases rx
  obtain ⟨t, rfl⟩ := ry
  obtain ⟨its, r, pl, hz⟩ := I.list hq
  obtain ⟨j, h1, h2, h3, h4, h5⟩ := atI_get he
  obtain ⟨w, ew, rw'⟩ := r.get h2
  have hl := r.length
  have hn := line63
  have fin : EP X pins σ Q w s := ⟨z, H, I, rw', q⟩
  by_cases h0 : 0 ≤ i
  · have hj : i.toNat = j := by
      rw [seqIndex_of h0 h5] at h1
      exact Option.some.inj h1
    exact item_listR pl.isList h0 (by omega) (by rw [hj]; simpa using ew) fin hs
  · have hj : (i + (its.toArray.size : Int)).toNat = j := by
      rw [seqIndex_neg (by omega) h4] at h1
      rw [List.size_toArray, ← hl]
      exact Option.some.inj h1
    exact subscriptTail_builtinR (x := w) pl.isList.typeIs slot_list_getitem.lookup
      (wpAny_getItem_list_neg (Q := fun r s' => r = w ∧ EP X pins σ Q r s') pl.isList (by omega) (by rw [List.size_toArray] <;> omega) (by omega) (by rw [hj]; simpa using ew) ⟨rfl, fin⟩) hs
theorem ix_tup : IxR X (rIxT X.K) := by
  intro value slice pins s σ H x y v u Q I rx ry h hs
  obtain ⟨p, xs, i, z, rfl, rfl, hq, he, q⟩ := h
  cases rx
  obtain ⟨t, rfl⟩ := ry
  obtain ⟨its, r, pl, hz⟩ := I.tuple hq
  obtain ⟨j, h1, h2, h3, h4, h5⟩ := atI_get he
  obtain ⟨w, ew, rw'⟩ := r.get h2
  have hl := r.length
  have hn := line63
  have fin : EP X pins σ Q w s := ⟨z, H, I, rw', q⟩
  exact subscriptTail_builtinR (x := w) pl.typeIs slot_tuple_getitem.lookup
    (getItem_tuple (j := j) (Q := fun r s' => r = w ∧ EP X pins σ Q r s') pl (by omega) (by omega) (by rw [List.size_toArray, ← hl]; exact h1) (by simpa using ew) ⟨rfl, fin⟩) hs
theorem mapSeq_set (its : List Value) (n j : Nat) (u : Value) : Obj.mapSeq (·.setIfInBounds j u) { cls := .type "list", data := .seq its.toArray n } = { cls := .type "list", data := .seq (its.set j u).toArray n } := by
  simp [Obj.mapSeq]
theorem Inv.lst {pins : List (Addr × Obj)} {σ : St} {H : Hp} {s : Shared} {p : Addr} {xs : List V} (I : Inv X pins σ H s) (h : H p = some (.lst xs)) :
    ∃ (its : List Value) (n : Nat), Vals xs its ∧ s.heap.get? p = some { cls := .type "list", data := .seq its.toArray n } ∧ xs.length ≤ sizeLine := by
  obtain ⟨z, its, n, r, e⟩ := I.hok p _ h
  exact ⟨its, n, r, e, z⟩
theorem Inv.lstUpd {pins : List (Addr × Obj)} {σ : St} {H : Hp} {s : Shared} {p : Addr} {xs ys : List V} {its its' : List Value} {n n' : Nat} {f : Obj → Obj} (I : Inv X pins σ H s) (h : H p = some (.lst xs))
    (ho : s.heap.get? p = some { cls := .type "list", data := .seq its.toArray n }) (hf : f { cls := .type "list", data := .seq its.toArray n } = { cls := .type "list", data := .seq its'.toArray n' }) (r : Vals ys its') (hz : ys.length ≤ sizeLine) (t : Nat) :
    Inv X pins σ (upd H p (.lst ys)) { s with heap := s.heap.update p f, toks := t } := by
  have e : (s.heap.update p f).get? p = some { cls := .type "list", data := .seq its'.toArray n' } := by
    rw [Heap.get?_update_self f ho (by rw [hf] <;> rfl), hf]
  refine I.write (x := p) (e := p) (by rw [h]; trivial) (.inl rfl) (fun b u hb q => (Heap.get?_update_other _ _ (Ne.symm hb)).trans q) ⟨_, e⟩ ?_
  exact ⟨hz, its', n', r, e⟩
def rSetL : V → V → V → Hp → (Hp → Prop) → Prop := fun o i v H Q => ∃ p xs k j, o = .ref p ∧ i = .int k ∧ H p = some (.lst xs) ∧ ixN xs.length k = some j ∧ Q (upd H p (.lst (xs.set j v)))
theorem set_list : PSet X rSetL := by
  intro pins s σ H o i v ov iv u Q I ro ri rv h
  obtain ⟨p, xs, k, j, rfl, rfl, hp, hj, q⟩ := h
  cases ro
  obtain ⟨t, rfl⟩ := ri
  obtain ⟨its, n, r, ho, hz⟩ := I.lst hp
  obtain ⟨h1, h2, h3, h4⟩ := ixN_seq hj
  have hl := r.length
  have hn := line63
  have I' : Inv X pins σ (upd H p (.lst (xs.set j v))) { s with heap := s.heap.update p (Obj.mapSeq (·.setIfInBounds j u)) } :=
    I.lstUpd hp ho (mapSeq_set its n j u) (r.set rv j) (by rw [List.length_set]; exact hz) s.toks
  by_cases h0 : 0 ≤ k
  · have hk : k.toNat = j := by
      rw [seqIndex_of h0 h4] at h1
      exact Option.some.inj h1
    exact PySem.W.ki_setAt ho h0 (by omega) (by rw [List.size_toArray, ← hl]; exact h4) (by rw [hk]; exact ⟨_, I', q⟩)
  · have hk : (k + (its.toArray.size : Int)).toNat = j := by
      rw [seqIndex_neg (by omega) h3] at h1
      rw [List.size_toArray, ← hl]
      exact Option.some.inj h1
    exact PySem.W.ki_setBack ho (by omega) (by rw [List.size_toArray, ← hl]; exact h3) (by omega) (by rw [hk]; exact ⟨_, I', q⟩)
theorem slice_bounds (lo hi : Option Int) (n : Nat) : (sliceBounds lo hi none n).1 = ((HT.sIx n 0 lo : Nat) : Int) ∧ (sliceBounds lo hi none n).2.1 = ((HT.sIx n n hi : Nat) : Int) ∧ (sliceBounds lo hi none n).2.2 = 1 := by
  refine ⟨?_, ?_, rfl⟩
  · cases lo with
    | none => simp [sliceBounds, HT.sIx]
    | some i =>
      simp only [sliceBounds, HT.sIx, Option.getD_none, show (1 : Int) > 0 by decide, if_true]
      by_cases h : i < 0
      · simp only [h, if_true] <;> omega
      · simp only [h, if_false] <;> omega
  · cases hi with
    | none => simp [sliceBounds, HT.sIx]
    | some i =>
      simp only [sliceBounds, HT.sIx, Option.getD_none, show (1 : Int) > 0 by decide, if_true]
      by_cases h : i < 0
      · simp only [h, if_true] <;> omega
      · simp only [h, if_false] <;> omega
theorem slicePick_cut (its : List Value) (lo hi : Option Int) : slicePick its.toArray lo hi none = ((its.drop (HT.sIx its.length 0 lo)).take (HT.sIx its.length its.length hi - HT.sIx its.length 0 lo)).toArray := by
  obtain ⟨h1, h2, h3⟩ := slice_bounds lo hi its.toArray.size
  unfold slicePick
  rw [h1, h2, h3]
  simp only [sliceRange_one, pick_run, List.size_toArray] <;> rfl
def rSlL (K : PySem.W.Frag) : V → Option Int → Option Int → Hp → VK → Prop := fun x lo hi H Q => ∃ a xs, x = .ref a ∧ SqL K H a xs ∧ ∀ p, H p = none → Q (.ref p) (upd H p (.lst (cutV xs lo hi)))
theorem sl_list : SlR X (rSlL X.K) := by
  intro pins s σ H x v vl vu lo hi sl Q I rx hs pl pu h
  obtain ⟨a, xs, rfl, hx, q⟩ := h
  cases rx
  obtain ⟨its, r, ht, hz⟩ := I.list hx
  have hlen := r.length
  refine ⟨"list", _, slot_list_getitem.lookup, ht.isList.typeIs, ?_⟩
  refine wpAny_getItem_list_slice ht.isList hs pl pu .none (by simp) ?_ (by rw [List.size_toArray] <;> omega)
  rw [slicePick_cut, ← hlen]
  refine ⟨.ref s.heap.objs.size, _, I.laid (t' := s.toks) (o := .lst (cutV xs lo hi)) (fun b ob q => Heap.get?_push_of_some _ q) (Nat.le_refl _) ?_, rfl, q _ (I.hok.fresh (Nat.le_refl _))⟩
  exact ⟨Nat.le_trans (cutV_length xs lo hi) hz, _, 0, (r.drop (HT.sIx xs.length 0 lo)).take (HT.sIx xs.length xs.length hi - HT.sIx xs.length 0 lo), Heap.get?_push_size _ rfl⟩
def flatV : V → Bool
  | .non => true
  | .bl _ => true
  | .int _ => true
  | .str _ => true
  | _ => false
def eqV : V → V → Bool
  | .non, .non => true
  | .bl a, .bl b => a == b
  | .bl a, .int b => (if a then 1 else 0) == b
  | .int a, .bl b => a == (if b then 1 else 0)
  | .int a, .int b => a == b
  | .str a, .str b => a == b
  | _, _ => false
theorem eqAt_V {A : Around} {s : Shared} {y x : V} {u v : Value} (ry : RelV y u) (rx : RelV x v) (fy : flatV y = true) (fx : flatV x = true) : SeqAt.EqAt A s u v (eqV y x) := by
  cases y with
  | non =>
    cases ry
    cases x with
    | non => cases rx; exact SeqAt.EqAt.same _
    | bl b => cases rx; exact SeqAt.EqAt.none_bool b
    | int b => obtain ⟨t, rfl⟩ := rx; exact SeqAt.EqAt.none_int b t
    | str b => obtain ⟨t, rfl⟩ := rx; exact SeqAt.EqAt.none_str b t
    | _ => exact absurd (show false = true from fx) Bool.false_ne_true
  | bl a =>
    cases ry
    cases x with
    | non => cases rx; exact SeqAt.EqAt.bool_none a
    | bl b => cases rx; exact SeqAt.EqAt.bool_bool a b
    | int b => obtain ⟨t, rfl⟩ := rx; exact SeqAt.EqAt.bool_int a b t
    | str b => obtain ⟨t, rfl⟩ := rx; exact SeqAt.EqAt.bool_str a b t
    | _ => exact absurd (show false = true from fx) Bool.false_ne_true
  | int a =>
    obtain ⟨t', rfl⟩ := ry
    cases x with
    | non => cases rx; exact SeqAt.EqAt.int_none a t'
    | bl b => cases rx; exact SeqAt.EqAt.int_bool a t' b
    | int b => obtain ⟨t, rfl⟩ := rx; exact SeqAt.EqAt.int_int a t' b t
    | str b => obtain ⟨t, rfl⟩ := rx; exact SeqAt.EqAt.int_str a t' b t
    | _ => exact absurd (show false = true from fx) Bool.false_ne_true
  | str a =>
    obtain ⟨t', rfl⟩ := ry
    cases x with
    | non => cases rx; exact SeqAt.EqAt.str_none a t'
    | bl b => cases rx; exact SeqAt.EqAt.str_bool a t' b
    | int b => obtain ⟨t, rfl⟩ := rx; exact SeqAt.EqAt.str_int a t' b t
    | str b => obtain ⟨t, rfl⟩ := rx; exact SeqAt.EqAt.str_str a t' b t
    | _ => exact absurd (show false = true from fx) Bool.false_ne_true
  | _ => exact absurd (show false = true from fy) Bool.false_ne_true
def eqU (x : V) (u : Value) : Bool := match u with
  | .none => eqV .non x
  | .bool b => eqV (.bl b) x
  | .int i _ => eqV (.int i) x
  | .str z _ => eqV (.str z) x
  | _ => false
theorem eqU_of {x y : V} {u : Value} (r : RelV y u) (f : flatV y = true) : eqU x u = eqV y x := by
  cases y with
  | non => cases r; rfl
  | bl b => cases r; rfl
  | int i => obtain ⟨t, rfl⟩ := r; rfl
  | str z => obtain ⟨t, rfl⟩ := r; rfl
  | _ => exact absurd (show false = true from f) Bool.false_ne_true
theorem any_eqU {x : V} : ∀ {xs : List V} {us : List Value}, Vals xs us → xs.all flatV = true → us.any (eqU x) = xs.any fun y => eqV y x
  | _, _, .nil, _ => rfl
  | y :: xs, u :: us, .cons r t, f => by
    rw [List.all_cons, Bool.and_eq_true] at f
    rw [List.any_cons, List.any_cons, eqU_of r f.1, any_eqU t f.2]
theorem mem_eqAt {A : Around} {s : Shared} {x : V} {v : Value} (rx : RelV x v) (fx : flatV x = true) : ∀ {xs : List V} {us : List Value}, Vals xs us → xs.all flatV = true → ∀ u ∈ us, SeqAt.EqAt A s u v (eqU x u)
  | _, _, .nil, _ => fun u hu => by cases hu
  | y :: xs, u :: us, .cons r t, f => fun u' hu => by
    rw [List.all_cons, Bool.and_eq_true] at f
    rcases List.mem_cons.mp hu with rfl | hu
    · rw [eqU_of r f.1]; exact eqAt_V r rx f.1 fx
    · exact mem_eqAt rx fx t f.2 u' hu
def inV (x : V) (xs : List V) : Bool := xs.any fun y => eqV y x
def rIn (K : PySem.W.Frag) (neg : Bool) : R2 := fun x y H Q => ∃ p xs, y = .ref p ∧ (SqL K H p xs ∨ SqT K H p xs) ∧ flatV x = true ∧ xs.all flatV = true ∧ Q (.bl (if neg then !inV x xs else inV x xs)) H
theorem op_in_seq : OpR X (compareOp .In) (rIn X.K false) := by
  intro pins s σ H x y v u Q I rx ry h
  obtain ⟨p, xs, rfl, hq, fx, fs, q⟩ := h
  cases ry
  rcases hq with hq | hq
  · obtain ⟨its, r, pl, hz⟩ := I.list hq
    refine SeqAt.in_listAt (eqU x) pl.isList (fun w hw => mem_eqAt rx fx r fs w (by simpa using hw)) ⟨.bl _, H, I, rfl, ?_⟩
    rw [show its.toArray.any (eqU x) = its.any (eqU x) by simp, any_eqU r fs]
    exact q
  · obtain ⟨its, r, pl, hz⟩ := I.tuple hq
    refine SeqAt.in_tupleAt (eqU x) pl (fun w hw => mem_eqAt rx fx r fs w (by simpa using hw)) ⟨.bl _, H, I, rfl, ?_⟩
    rw [show its.toArray.any (eqU x) = its.any (eqU x) by simp, any_eqU r fs]
    exact q
theorem call_len_seq : CallR X (.builtin "len") (fun xs H Q => ∃ p ys, xs = [.ref p] ∧ (SqL X.K H p ys ∨ SqT X.K H p ys) ∧ Q (.int ys.length) H) := by
  intro pins s σ H xs us Q I r h
  obtain ⟨p, ys, rfl, hq, q⟩ := h
  obtain ⟨u, rfl, rx⟩ := vals1 r
  cases rx
  have hn := line63
  rcases hq with hq | hq
  · obtain ⟨its, r', pl, hz⟩ := I.list hq
    have hlen := r'.length
    exact Calls.call_len_list pl.isList (by simp only [List.size_toArray] <;> omega) ⟨.int ys.length, H, I.tok _, ⟨s.toks + 1, by rw [List.size_toArray, hlen]⟩, q⟩
  · obtain ⟨its, r', pl, hz⟩ := I.tuple hq
    have hlen := r'.length
    exact len_tuple pl (by simp only [List.size_toArray] <;> omega) ⟨.int ys.length, H, I.tok _, ⟨s.toks + 1, by rw [List.size_toArray, hlen]⟩, q⟩
theorem CallR.or {f : Value} {r r' : List V → Hp → VK → Prop} (h : CallR X f r) (h' : CallR X f r') : CallR X f (fun xs H Q => r xs H Q ∨ r' xs H Q) := by
  intro pins s σ H xs us Q I rs q
  rcases q with q | q
  · exact h pins s σ H xs us Q I rs q
  · exact h' pins s σ H xs us Q I rs q
theorem call_list_of : CallR X (.type "list") (fun xs H Q => ∃ p ys, xs = [.ref p] ∧ (SqL X.K H p ys ∨ SqT X.K H p ys) ∧ ∀ l, H l = none → Q (.ref l) (upd H l (.lst ys))) := by
  intro pins s σ H xs us Q I r h
  obtain ⟨p, ys, rfl, hq, q⟩ := h
  obtain ⟨u, rfl, rx⟩ := vals1 r
  cases rx
  have fin : ∀ (its : List Value), Vals ys its → ys.length ≤ sizeLine → ∀ (h' : Heap) (c' : Nat), (∀ b o', s.heap.get? b = some o' → h'.get? b = some o') →
      h'.get? s.heap.objs.size = some { cls := .type "list", dict := none, data := .seq its.toArray c', slots := #[] } → EP X pins σ Q (.ref s.heap.objs.size) { s with heap := h' } := fun its r' hz h' c' kp e =>
    ⟨.ref s.heap.objs.size, _, I.laid (t' := s.toks) kp (Nat.le_refl _) (show ObjOk X.prog X.w _ h' _ (.lst ys) from ⟨hz, its, c', r', e⟩), rfl, q _ (I.hok.fresh (Nat.le_refl _))⟩
  rcases hq with hq | hq
  · obtain ⟨its, r', pl, hz⟩ := I.list hq
    have hlen := r'.length
    obtain ⟨o, ho, hc, n, hd⟩ := pl.isList
    exact call_list_seq p (.inl rfl) ho hc hd (fun h' c' kp e => fin its r' hz h' c' kp e) (by simp only [List.size_toArray] <;> omega)
  · obtain ⟨its, r', pl, hz⟩ := I.tuple hq
    have hlen := r'.length
    obtain ⟨o, ho, hc, n, hd⟩ := pl
    exact call_list_seq p (.inr rfl) ho hc hd (fun h' c' kp e => fin its r' hz h' c' kp e) (by simp only [List.size_toArray] <;> omega)
def tyV (K : PySem.W.Frag) (T : String) (x : V) (H : Hp) : Prop := match x with
  | .str _ => T = "str"
  | .int _ => T = "int"
  | .ref p => (T = "list" ∧ ∃ xs, SqL K H p xs) ∨ (T = "tuple" ∧ ∃ o, K.lookup p = some o ∧ o.cls = .type "tuple" ∧ o.dict = none) ∨
      (T = "dict" ∧ ((∃ kvs, H p = some (.dK kvs)) ∨ ∃ kvs, H p = some (.dT kvs))) ∨ (T = "set" ∧ ∃ S n, H p = some (.set S n))
  | _ => False
theorem tyV_is {pins : List (Addr × Obj)} {σ : St} {H : Hp} {s : Shared} {T : String} {x : V} {v : Value} (I : Inv X pins σ H s) (r : RelV x v) (ty : tyV X.K T x H) :
    s.TypeIs v T ∧ ∀ a, v = .ref a → ∃ ob, s.heap.get? a = some ob ∧ ob.dict = none := by
  cases x with
  | str z =>
    obtain ⟨t, rfl⟩ := r
    cases (show T = "str" from ty)
    exact ⟨typeIs_str s z t, fun _ e => nomatch e⟩
  | int i =>
    obtain ⟨t, rfl⟩ := r
    cases (show T = "int" from ty)
    exact ⟨typeIs_int s i t, fun _ e => nomatch e⟩
  | ref p =>
    cases r
    rcases ty with ⟨rfl, xs, hq⟩ | ⟨rfl, o, hk, hc, hd⟩ | ⟨rfl, hk⟩ | ⟨rfl, S, n, hk⟩
    · obtain ⟨its, _, pl, _⟩ := I.list hq
      refine ⟨pl.isList.typeIs, fun a e => ?_⟩
      cases e
      obtain ⟨o, n, e, c, hd, _⟩ := pl
      exact ⟨o, e, hd⟩
    · refine ⟨⟨o, I.kIn p o hk, hc⟩, fun a e => ?_⟩
      cases e
      exact ⟨o, I.kIn _ o hk, hd⟩
    · have z : ∃ o, s.heap.get? p = some o ∧ o.ExactDict := by
        rcases hk with ⟨kvs, hk⟩ | ⟨kvs, hk⟩
        · obtain ⟨_, _, _, _, o, _, _, e, ex, _⟩ := I.hok p _ hk
          exact ⟨o, e, ex⟩
        · obtain ⟨_, _, _, _, o, _, _, e, ex, _⟩ := I.hok p _ hk
          exact ⟨o, e, ex⟩
      obtain ⟨o, e, ex⟩ := z
      refine ⟨⟨o, e, ex.1⟩, fun a e2 => ?_⟩
      cases e2
      exact ⟨o, e, ex.2.1⟩
    · obtain ⟨o, _, _, _, e, ex, _⟩ := I.hok p _ hk
      refine ⟨⟨o, e, ex.1⟩, fun a e2 => ?_⟩
      cases e2
      exact ⟨o, e, ex.2.1⟩
  | _ => exact False.elim ty
def tBM (K : PySem.W.Frag) (T : String) (r : V → List V → Hp → VK → Prop) (to : TE) (t : TA) : TE := fun σ H Q => to σ H fun x H1 => tyV K T x H1 ∧ t σ H1 fun xs H2 => r x xs H2 Q
variable {o e : Expr} {es : List Expr} {to : TE} {t : TA} {name : Str} {apos cpos : Pos} {T id : String} {r : V → List V → Hp → VK → Prop}
theorem pe_bm (pa : PlainAttrs T) (slot : Slot T name id) (hty : typeOf (.builtin id) = pure (.type "method_descriptor")) (hm : MtR X id r) (ho : PE X o to) (ha : PA X (e :: es) t)
    (hbase : attributeBase o name X.env (eval o X.env) = eval o X.env := by rfl)
    (hfew : ((backTo cpos (starEach (e :: es) X.env)).all (fun x => !x.1) && (backToKw cpos (keywordEach [] X.env)).all (fun x => x.1.isSome)
      && decide ((e :: es).length + ([] : List Keyword).length + (if ([] : List Keyword).isEmpty then 0 else 1) < 30)) = true := by rfl)
    (hline : (apos.endLine == cpos.line) = true := by rfl) (hs : starEach (e :: es) X.env = (false, eval e X.env) :: starEach es X.env := by rfl) (hplain : (backTo cpos (starEach es X.env)).any (·.1) = false := by rfl) :
    PE X (.Call (.Attribute o name apos) (e :: es) [] cpos) (tBM X.K T r to t) := by
  intro pins s σ H Q I h
  refine wpAny_Call_method_late hbase hfew hline rfl (thn (ho pins s σ H _ I h) fun v s1 ⟨x, H1, I1, r1, ty, q1⟩ => ?_)
  obtain ⟨h1, h2⟩ := tyV_is I1 r1 ty
  refine ⟨T, id, pa, slot, hty, h1, h2, ?_⟩
  have hA := ha cpos pins s1 σ H1 _ I1 q1
  rw [hs] at hA ⊢
  refine Calls.callWith_builtin (by show (false || (backTo cpos (starEach es X.env)).any (·.1)) = false; rw [hplain] <;> rfl) (Calls.evalArgs_plain ?_)
  exact thn hA fun us s2 ⟨vs, H2, I2, r2, q2⟩ => hm pins s2 σ H2 x vs v us Q I2 r1 r2 q2
end
end L2
namespace L2
open PySem PySem.Spec PyProof.Rows
def MtM (X : Cx) (id : String) (r : V → List V → Hp → VK → Prop) : Prop :=
  ∀ (pins : List (Addr × Obj)) (s : Shared) (σ : St) (H : Hp) (x : V) (xs : List V) (v : Value) (us : List Value) (Q : VK), Inv X pins σ H s → RelV x v → Vals xs us → r x xs H Q →
    wpAny (model X.prog X.w) X.A (call (.builtin id) (v :: us)) (EP X pins σ Q) X.xe s
theorem Vals.one : ∀ {x : V} {us : List Value}, Vals [x] us → ∃ u, us = [u] ∧ RelV x u
  | _, _, .cons r .nil => ⟨_, rfl, r⟩
theorem Vals.two : ∀ {x y : V} {us : List Value}, Vals [x, y] us → ∃ u v, us = [u, v] ∧ RelV x u ∧ RelV y v
  | _, _, _, .cons r (.cons q .nil) => ⟨_, _, rfl, r, q⟩
theorem Vals.zero : ∀ {us : List Value}, Vals [] us → us = []
  | _, .nil => rfl
theorem Vals.reverse {xs : List V} {us : List Value} (h : Vals xs us) : Vals xs.reverse us.reverse := by
  induction h with
  | nil => exact .nil
  | cons r t ih => rw [List.reverse_cons, List.reverse_cons]; exact Vals.append ih (.cons r .nil)
section
variable {X : Cx} {pins : List (Addr × Obj)} {σ : St} {H : Hp} {s : Shared} {l b : Addr} {xs ys zs : List V}
theorem Inv.lset {its its' : List Value} {n : Nat} {f : Array Value → Array Value} {t' : Nat} (I : Inv X pins σ H s) (hH : H l = some (.lst xs))
    (e : s.heap.get? l = some { cls := .type "list", data := .seq its.toArray n }) (hf : f its.toArray = its'.toArray) (hv : Vals ys its') (hz : ys.length ≤ sizeLine) :
    Inv X pins σ (upd H l (.lst ys)) { s with heap := s.heap.update l (Obj.mapSeq f), toks := t' } := by
  have q := PySem.IsL.update e f
  rw [hf] at q
  refine I.write (x := l) (e := l) (by rw [hH]; exact trivial) (.inl rfl) (fun b' u hb hu => (Heap.get?_update_other s.heap (Obj.mapSeq f) (Ne.symm hb)).trans hu) ⟨_, q⟩ ?_
  exact ⟨hz, its', _, hv, q⟩
theorem Inv.lnew {its : List Value} {t' : Nat} (I : Inv X pins σ H s) (hv : Vals ys its) (hz : ys.length ≤ sizeLine) :
    Inv X pins σ (upd H s.heap.objs.size (.lst ys)) { s with heap := s.heap.push { cls := .type "list", data := .seq its.toArray }, toks := t' } :=
  I.laid (fun _ _ q => Heap.get?_push_of_some _ q) (Nat.le_refl _) ⟨hz, its, 0, hv, Heap.get?_push_size _ rfl⟩
theorem Inv.fresh (I : Inv X pins σ H s) : H s.heap.objs.size = none := I.hok.fresh (Nat.le_refl _)
theorem Inv.lstM (I : Inv X pins σ H s) (hH : H l = some (.lst xs)) : xs.length ≤ sizeLine ∧ ∃ (its : List Value) (n : Nat), Vals xs its ∧ xs.length = its.length ∧ s.heap.get? l = some { cls := .type "list", data := .seq its.toArray n } := by
  obtain ⟨z, its, n, r, e⟩ := I.hok l _ hH
  exact ⟨z, its, n, r, r.length, e⟩
end
section
variable {X : Cx}
def rAppend : V → List V → Hp → VK → Prop := fun x vs H Q => ∃ l xs y, x = .ref l ∧ vs = [y] ∧ H l = some (.lst xs) ∧ xs.length < sizeLine ∧ Q .non (upd H l (.lst (xs ++ [y])))
theorem mt_append : MtM X "list.append" rAppend := by
  intro pins s σ H x vs v us Q I rx rv h
  obtain ⟨l, xs, y, rfl, rfl, hH, hz, q⟩ := h
  cases rx
  obtain ⟨u, rfl, ru⟩ := rv.one
  obtain ⟨z, its, n, r, hl, e⟩ := I.lstM hH
  refine call_meets F.slot_list_append ⟨_, e, rfl⟩ F.entry_list_append (F.args_list_append_2 _ _) (PySem.list_append l its.toArray n u (by rw [List.size_toArray]; omega)) ⟨e, ?_⟩
  refine ⟨.non, _, I.lset (its' := its ++ [u]) hH e (by simp) (r.append (.cons ru .nil)) ?_, rfl, q⟩
  rw [List.length_append, List.length_singleton]
  omega
def rCat : R2 := fun x y H Q => ∃ l b xs zs, x = .ref l ∧ y = .ref b ∧ H l = some (.lst xs) ∧ H b = some (.lst zs) ∧ xs.length + zs.length ≤ sizeLine ∧ ∀ p, H p = none → Q (.ref p) (upd H p (.lst (xs ++ zs)))
theorem op_cat : OpR X (binaryOp .Add) rCat := by
  intro pins s σ H x y v u Q I rx ry h
  obtain ⟨l, b, xs, zs, rfl, rfl, hH, hB, hz, q⟩ := h
  cases rx
  cases ry
  obtain ⟨z, its, n, r, hl, e⟩ := I.lstM hH
  obtain ⟨z2, its2, n2, r2, hl2, e2⟩ := I.lstM hB
  refine PySem.P.add_list e e2 ?_ (by rw [List.size_toArray, List.size_toArray]; omega)
  have ea : its.toArray ++ its2.toArray = (its ++ its2).toArray := by simp
  rw [ea]
  exact ⟨.ref _, _, I.lnew (t' := s.toks) (r.append r2) (by rw [List.length_append]; omega), rfl, q _ I.fresh⟩
end
section
variable {prog : Program} {w : World} {A : Around} {E : Value → Shared → Prop} {s : Shared}
end
section
variable {X : Cx}
end
end L2
namespace Att
open PySem PySem.W PySem.Calls PyProof.Rows
theorem ints_of_wellAll {P : Params} {h : Heap} : ∀ (ns : List Int) (vs : List Value), WellAll P h vs (ns.map WData.int) → IntsAre vs ns := by
  intro ns
  induction ns with
  | nil =>
    intro vs w
    rw [List.map_nil] at w
    cases w
    exact .nil
  | cons n ns ih =>
    intro vs w
    rw [List.map_cons] at w
    cases w with
    | cons a b =>
      cases a
      exact .cons _ _ (ih _ b)
theorem script_of {l : OpenLaw} {n : Nat} (hn : l.most = some n) {P : Params} {h : Heap} {args : List WData} {vals : List Value}
    (hpre : l.row.toRowW.claim.pre args = true) (hwl : WellAll P h vals args) :
    ∃ a vs ns, vals = [Value.ref a] ∧ args = [WData.list (ns.map WData.int)] ∧ h.get? a = some { cls := .type "list", data := .seq vs.toArray } ∧ IntsAre vs ns ∧ ns.length ≤ n := by
  have hsh : WShape.hasAll [] args [.list .int] = true := (pre_splitW hpre).1
  have hc : l.pre.holds [] { args := args } = true := (pre_splitW hpre).2
  obtain ⟨d, r, rfl, h1, h2⟩ := hasAllW_cons hsh
  obtain rfl := hasAllW_nil h2
  obtain ⟨xs, rfl, h3⟩ := hasW_list h1
  obtain ⟨ns, rfl⟩ := items_int h3
  have hlen : ns.length ≤ n := by
    unfold OpenLaw.pre at hc
    have h4 : (WTm.not (.lt (.lit (.int (n : Int))) (.len (.arg 0)))).holds [] { args := [.list (ns.map .int)] } = true := by
      have h4 := (holds_andW hc).1
      rw [hn] at h4
      exact h4
    have h5 := condW_of h4 (w_not (w_lt w_lit (w_len_list (w_arg rfl))))
    rw [List.length_map] at h5
    refine Nat.le_of_not_lt fun q => ?_
    have q' : (n : Int) < ((ns.length : Nat) : Int) := by omega
    first
      | (rw [decide_eq_true q'] at h5; exact absurd h5 (by decide))
      | (simp at h5; omega)
  cases hwl with
  | cons w1 w2 =>
    cases w2
    cases w1 with
    | list ho hall => exact ⟨_, _, ns, rfl, rfl, ho, ints_of_wellAll ns _ hall, hlen⟩
theorem post_true (l : OpenLaw) (args : List WData) : l.row.toRowW.claim.post args (.bool true) args = true :=
  postW_of (r := l.row.toRowW) (X := (true == true))
    (show WShape.has [] (.bool true) .bool = true by first | rfl | decide | simp [WShape.has, WShape.arms, WShape.armsAll])
    (show (WTm.eq .res (.lit (.bool true))).value [] { args := args, res := some (.bool true), after := args } = some (.bool (true == true)) from w_eq_bool (w_res rfl) w_lit) rfl
theorem attach_call {l : OpenLaw} {n : Nat} {q : Program} {loose : List Str} {XP : (Str → Option Value) → Heap → Prop} {YP : World → Heap → Prop} {d : DefRec}
    (hn : l.most = some n) (hdf : d.params.defaults = [])
    (call : ∀ (w : World) (s₀ s₁ : Shared) (mg mb : Str → Option Value) (fa : Addr) (o : Obj) (pm cd doc : Value) (a : Addr) (vs : List Value) (ns : List Int),
      Ground q loose [] XP w s₀ mg mb s₁.heap → YP w s₁.heap →
      s₁.heap.get? fa = some o → o.data = .func (docDef d.name d.params d.body d.scope pm cd doc) → s₁.heap.CodeRec cd d.name → mg d.name = some (.ref fa) →
      s₁.heap.get? a = some { cls := .type "list", data := .seq vs.toArray } → IntsAre vs ns → ns.length ≤ n → s₁.gens = #[] →
      codeAny (model l.prog w) callerA (.call (.ref fa) ⟨[.ref a], []⟩) (fun r s' => r = .ok (.ret (.bool true)) ∧ OldK s₁.heap s'.heap ∧ s'.os = s₁.os ∧ AllBare s'.gens) s₁) :
    WalkO q loose XP YP l.row.toRowW d [] (fun f vs => PySem.call f vs) := by
  intro w s₀ s₁ mg mb G Y fa o pm cd doc dV kV ho hd hcd hD hmg hg args vals as hpre hlay hrd hwl hlo
  obtain rfl : dV = .none := Dflts.none hD hdf
  obtain rfl : kV = .none := Dflts.noKw hD
  obtain ⟨a, vs, ns, rfl, rfl, hobj, hints, hlen⟩ := script_of hn hpre hwl
  refine enter_call (codeAny_mono (call w s₀ s₁ mg mb fa o pm cd doc a vs ns G Y ho (fd_plain hd) hcd hmg hobj hints hlen hg) fun r s' hq => ?_)
  obtain ⟨rfl, h2, h3, h4⟩ := hq
  exact ⟨.inl ⟨.bool true, .bool true, [], rfl, fun _ => rfl, .bool true, post_true l _, fun _ => ⟨List.Pairwise.nil, fun _ hm => (nomatch hm)⟩⟩, h2, h3, h4⟩
section
variable {prog : Program} {w : World} {A : Around} {E : Value → Shared → Prop} {s : Shared} {K : Frag}
end
end Att
namespace L2
open PySem PySem.Spec PyProof.Rows
theorem vals_ints : ∀ {vs : List Value} {ns : List Int}, IntsAre vs ns → Vals (ns.map V.int) vs
  | _, _, .nil => .nil
  | _, _, .cons n t h => .cons ⟨t, rfl⟩ (vals_ints h)
def Only (H : Hp) : Prop := ∀ b, H b = none ∨ ∃ o xs, H b = some (.frz o (.lst xs))
theorem law_call {P : Program} {w : World} {K : PySem.W.Frag} {mg mb : Str → Option Value} {CX : CXT} {k : Nat} {fa a : Addr} {fd : FuncData} {x : Str} {sp : Sp} {s₁ : Shared} {vs : List Value} {ns : List Int}
    (KX : K.In s₁.heap) (hns : s₁.heap.Ns mainGlobals mg) (hb : s₁.heap.Ns builtinsNs mb) (hbb : ∀ x : Str, x ≠ "__name__" → mb x = bootBuiltins x) (hlim : s₁.heap.NoLimit) (hg : s₁.gens = #[])
    (ha : s₁.heap.get? a = some { cls := .type "list", data := .seq vs.toArray }) (hi : IntsAre vs ns) (hl : ns.length ≤ sizeLine) (hr : Room k callerA)
    (F : ∀ base : Heap, K.In base → base.Ns mainGlobals mg → FnOk P w K mg base CX k fa fd [x] sp) (hbind : ∀ (s : Shared) (u : Value), BindsTo s fd ⟨[u], []⟩ [(x, u)])
    (hsp : ∀ H : Hp, Only H → SqL K H a (ns.map V.int) → sp [.ref a] H (fun v _ => v = .bl true) fun _ _ _ => False)
    (hCX : ∀ H e s', CX [] H s₁ (fun _ _ _ => False) e s' → False) :
    codeAny (model P w) callerA (.call (.ref fa) ⟨[.ref a], []⟩) (fun r s' => r = .ok (.ret (.bool true)) ∧ OldK s₁.heap s'.heap ∧ s'.os = s₁.os ∧ AllBare s'.gens) s₁ := by
  have rv := vals_ints hi
  have lenV := hi.length
  -- from an abstract heap in which nothing but the script may be tracked
  have core : ∀ H : Hp, Only H → SqL K H a (ns.map V.int) → HOk P w H s₁.heap → (∀ b, H b ≠ none → b = a) → (H a ≠ none → K.lookup a = none) →
      codeAny (model P w) callerA (.call (.ref fa) ⟨[.ref a], []⟩) (fun r s' => r = .ok (.ret (.bool true)) ∧ OldK s₁.heap s'.heap ∧ s'.os = s₁.os ∧ AllBare s'.gens) s₁ := by
    intro H hO hS hok hA hK
    have base_of : ∀ {b : Addr} {o : Obj}, s₁.heap.get? b = some o → H b = none → (hidT s₁.heap H).get? b = some o := fun e n => hidT_get e n
    have noA : ∀ {b : Addr} {o : Obj} {es : Array DictEntry} {ep : Nat}, s₁.heap.get? b = some o → o.data = .dict es ep → H b = none := fun {b o es ep} e d => by
      cases q : H b with
      | none => rfl
      | some u =>
        have e' : b = a := hA b (by rw [q]; simp)
        subst e'
        rw [ha] at e; cases e
        have d' : Data.seq vs.toArray _ = Data.dict es ep := d
        cases d'
    have nsK : ∀ {b : Addr} {m : Str → Option Value}, s₁.heap.Ns b m → (hidT s₁.heap H).Ns b m := fun {b m} ⟨o, es, ep, e, d, r⟩ => ⟨o, es, ep, base_of e (noA e d), d, r⟩
    have hKb : K.In (hidT s₁.heap H) := fun b o e => base_of (KX b o e) (by
      cases q : H b with
      | none => rfl
      | some u =>
        have e' : b = a := hA b (by rw [q]; simp)
        subst e'
        rw [hK (by rw [q]; simp)] at e; cases e)
    have hM : Mod K mg (hidT s₁.heap H) := ⟨hKb, nsK hns, ⟨mb, nsK hb, hbb⟩, let ⟨mc, h1, h2⟩ := hlim; ⟨mc, nsK h1, h2⟩⟩
    have e0 : Env0 P w K mg (hidT s₁.heap H) callerA [] s₁ H := ⟨rfl, hM, fun b o e => of_hidT e, Nat.le_of_eq (hidT_size _ _), trivial, fun b hb => absurd (show b ∈ ([] : List Addr) from hb) (by simp), hok, .of_eq hg⟩
    refine codeAny_mono ((F _ hKb (nsK hns)).run callerA [] s₁ H ⟨[.ref a], []⟩ [.ref a] [.ref a] _ _ hr e0 (hbind s₁ (.ref a)) (.cons rfl .nil) (hsp H hO hS)) fun r s' h => ?_
    cases r with
    | error e => exact (hCX H e s' h).elim
    | ok fl =>
      cases fl with
      | next => exact False.elim h
      | brk => exact False.elim h
      | cont => exact False.elim h
      | ret u =>
        obtain ⟨v, H', os, bare, un, hok', r', q⟩ := h
        have q' : v = .bl true := q
        subst q'
        obtain rfl : u = Value.bool true := r'
        refine ⟨rfl, OldK.of_keep fun b o e => ?_, os, bare⟩
        cases q : H b with
        | none => exact un.keep b o e q (by intro z; exact absurd (show b ∈ ([] : List Addr) from z) (by simp)) (by simp)
        | some u =>
          rcases hO b with z | ⟨ob, xs, z⟩
          · rw [q] at z; cases z
          · have z2 := un.frzs b ob _ z
            obtain ⟨e1, _⟩ := hok b _ z
            obtain ⟨e2, _⟩ := hok' b _ z2
            rw [e] at e1; cases e1
            exact e2
  cases hk : K.lookup a with
  | some o =>
    -- the script is one of the module's own objects
    have e := KX a o hk
    rw [ha] at e
    cases e
    refine core (fun _ => none) (fun _ => .inl rfl) (.inr ⟨_, vs.toArray, _, hk, rfl, rfl, rfl, by rw [List.size_toArray, lenV]; exact hl, by simpa using rv⟩) (fun b u z => by have z' : (none : Option HO) = some u := z; cases z') (fun b z => absurd rfl z) fun z => absurd rfl z
  | none =>
    refine core (fun b => if b = a then some (.frz { cls := .type "list", data := .seq vs.toArray } (.lst (ns.map V.int))) else none) (fun b => ?_) (.inl (.inr ⟨{ cls := .type "list", data := .seq vs.toArray }, if_pos rfl⟩)) (fun b u z => ?_) (fun b z => ?_) fun _ => hk
    · by_cases hb : b = a
      · exact .inr ⟨_, _, if_pos hb⟩
      · exact .inl (if_neg hb)
    · by_cases hb : b = a
      · have z' := (if_pos hb).symm.trans z
        cases z'
        subst hb
        exact ⟨ha, by rw [List.length_map]; exact hl, vs, _, rv, ha⟩
      · have z' := (if_neg hb).symm.trans z
        cases z'
    · by_cases hb : b = a
      · exact hb
      · exact absurd (if_neg hb) z
end L2
namespace L2
open PySem PySem.Spec PyProof.Rows
theorem walk_of {l : PySem.W.OpenLaw} {n k : Nat} {q : Program} {loose : List Str} {XP : (Str → Option Value) → Heap → Prop} {YP : World → Heap → Prop} {d : DefRec} {K : Params → PySem.W.Frag} {CX : World → CXT} {sp : World → Sp} {x : Str}
    (hn : l.most = some n) (hn2 : n ≤ sizeLine) (hdf : d.params.defaults = []) (hr : Room k callerA)
    (hY : ∀ (w : World) (h : Heap), YP w h → (K w.params).In h)
    (F : ∀ (w : World) (mg : Str → Option Value) (fa : Addr) (h : Heap), (K w.params).In h → h.Ns mainGlobals mg → mg d.name = some (.ref fa) →
      ∃ fd : FuncData, (∀ (s : Shared) (u : Value), BindsTo s fd ⟨[u], []⟩ [(x, u)]) ∧
        ∀ base : Heap, (K w.params).In base → base.Ns mainGlobals mg → FnOk l.prog w (K w.params) mg base (CX w) k fa fd [x] (sp w))
    (hsp : ∀ (w : World) (H : Hp) (a : Addr) (ns : List Int), ns.length ≤ n → Only H → SqL (K w.params) H a (ns.map V.int) → sp w [.ref a] H (fun v _ => v = .bl true) fun _ _ _ => False)
    (hCX : ∀ (w : World) (H : Hp) (s : Shared) (e : Value) (s' : Shared), CX w [] H s (fun _ _ _ => False) e s' → False) :
    PySem.W.WalkO q loose XP YP l.row.toRowW d [] (fun f vs => PySem.call f vs) := by
  refine Att.attach_call hn hdf fun w s₀ s₁ mg mb fa o pm cd doc a vs ns G Y ho hd hcd hmg hobj hints hlen hg => ?_
  have KX := hY w _ Y
  obtain ⟨fd, hb, hF⟩ := F w mg fa _ KX G.T.g hmg
  exact law_call KX G.T.g G.T.b G.T.builtins G.T.nolimit hg hobj hints (Nat.le_trans hlen hn2) hr hF hb (fun H hO hS => hsp w H a ns hlen hO hS) fun H e s' => hCX w H s₁ e s'
end L2
namespace L2
open PySem PySem.Spec PyProof.Rows
def defArgs (s : Stmt) : Arguments := match s with
  | .FunctionDef _ a _ _ _ _ _ _ _ _ => a
  | _ => { posonlyargs := [], args := [], vararg := none, kwonlyargs := [], kw_defaults := [], kwarg := none, defaults := [] }
def defBody (s : Stmt) : List Stmt := match s with
  | .FunctionDef _ _ b _ _ _ _ _ _ _ => b
  | _ => []
def defScope (s : Stmt) : Scope := match s with
  | .FunctionDef _ _ _ _ _ _ sc _ _ _ => sc
  | _ => { kind := .function, names := [], isGenerator := false, isCoroutine := false }
abbrev CX0 : CXT := fun _ _ _ _ _ _ => False
abbrev E0 : XK := fun _ _ _ => False
theorem pass0 {X : Cx} : Passes CX0 X E0 := fun _ _ _ _ _ _ _ h => h.elim
structure Fun (K : PySem.W.Frag) (x qual : Str) (st : Stmt) (f : Addr) (fd : FuncData) : Prop where
  ex : ∃ (oc : Value) (od : Option Addr) (kV doc pm : Value) (an : Option Addr) (cdv ct : Value) (osl : Array (Option Value)),
    fd = PySem.W.fnOf x qual (defArgs st) (defBody st) (defScope st) .none kV doc pm an cdv ct ∧ K.lookup f = some ⟨oc, od, .func fd, osl⟩ ∧ PySem.W.codeIn K cdv qual = true
  kp : PySem.W.keepIn K (.ref f) = true
section
variable {P : Program} {w : World} {K : PySem.W.Frag} {mg : Str → Option Value} {base : Heap}
theorem Fun.ok {x qual : Str} {st : Stmt} {f : Addr} {fd : FuncData} {N ps : List Str} {k : Nat} {sp : Sp} (F : Fun K x qual st f fd) (S : FnScope N ps (defScope st)) (len : ∀ vs H Q E, sp vs H Q E → vs.length = ps.length)
    (hbody : ∀ (cdv : Value) (A : Around) (outer : List Env) (s : Shared) (H : Hp) (vs : List V) (Q : VK) (E : XK), Room k (A.deeper (envOfC qual (defScope st) s.heap.objs.size f cdv)) → sp vs H Q E →
      ∃ t, PSs (cxOf CX0 P w K mg base N qual (defScope st) f cdv A outer s H E).nox (defBody st) t ∧ t { nx := fun _ H' => Q .non H', rt := Q } (start N vs) H) : FnOk P w K mg base CX0 (k + 1) f fd ps sp := by
  obtain ⟨oc, od, kV, doc, pm, an, cdv, ct, osl, rfl, lk, hcd⟩ := F.ex
  refine fn_of lk hcd S len fun A outer s H vs Q E hr hsp => ?_
  obtain ⟨t, h, q⟩ := hbody cdv A outer s H vs Q E hr hsp
  exact ⟨t, h.nox, q⟩
theorem Fun.binds {x qual : Str} {st : Stmt} {f : Addr} {fd : FuncData} {ps : List Str} (F : Fun K x qual st f fd)
    (h : ∀ (kV doc pm : Value) (an : Option Addr) (cdv ct : Value) (us : List Value), us.length = ps.length → bindArgs (PySem.W.fnOf x qual (defArgs st) (defBody st) (defScope st) .none kV doc pm an cdv ct) ⟨us, []⟩ = pure (ps.zip us)) : Binds K fd ps [] := by
  obtain ⟨oc, od, kV, doc, pm, an, cdv, ct, osl, rfl, lk, hcd⟩ := F.ex
  exact .all (h kV doc pm an cdv ct)
theorem fun_mk {x qual : Str} {st : Stmt} {f : Addr} {oc : Value} {od an : Option Addr} {osl : Array (Option Value)} {kV doc pm cdv ct : Value} (l : K.lookup f = some ⟨oc, od, .func (PySem.W.fnOf x qual (defArgs st) (defBody st) (defScope st) .none kV doc pm an cdv ct), osl⟩)
    (c : PySem.W.codeIn K cdv qual = true) (k : PySem.W.keepIn K (.ref f) = true) : Fun K x qual st f (PySem.W.fnOf x qual (defArgs st) (defBody st) (defScope st) .none kV doc pm an cdv ct) := ⟨⟨oc, od, kV, doc, pm, an, cdv, ct, osl, rfl, l, c⟩, k⟩
end
section
variable {X : Cx}
end
theorem iteF {A B : Prop} (h : B) : if false = true then A else B := by
  rw [if_neg Bool.false_ne_true]
  exact h
theorem iteT {A B : Prop} (h : A) : if true = true then A else B := by
  rw [if_pos rfl]
  exact h
theorem ite2 {c A B : Prop} [Decidable c] (h1 : c → A) (h2 : ¬ c → B) : if c then A else B := by
  by_cases h : c
  · rw [if_pos h]
    exact h1 h
  · rw [if_neg h]
    exact h2 h
def Same (H H' : Hp) : Prop := ∀ b o, H b = some o → H' b = some o
theorem Same.refl (H : Hp) : Same H H := fun _ _ h => h
theorem Same.trans {H H1 H2 : Hp} (a : Same H H1) (b : Same H1 H2) : Same H H2 := fun c o h => b c o (a c o h)
theorem Same.free {H H' : Hp} (e : Same H H') {l : Addr} (h : H' l = Option.none) : H l = Option.none := by
  cases q : H l with
  | none => rfl
  | some o =>
    rw [e l o q] at h
    cases h
theorem Same.seq {K : PySem.W.Frag} {H H' : Hp} {a : Addr} {xs : List V} (e : Same H H') (h : SqL K H a xs) : SqL K H' a xs := by
  rcases h with (h | ⟨o, h⟩) | h
  · exact .inl (.inl (e _ _ h))
  · exact .inl (.inr ⟨o, e _ _ h⟩)
  · exact .inr h
end L2
namespace L2
open PySem PySem.Spec PyProof.Rows
section
variable {X : Cx}
end
section
variable {κ : Type} [DecidableEq κ]
end
end L2
namespace L3
open PySem PySem.Spec PyProof.Rows L2
abbrev St := L2.St
theorem same_upd {B H : Hp} {l : Addr} {o : HO} (h : Same B H) (n : B l = none) : Same B (upd H l o) := fun b u e => by
  rw [upd_ne (ne_of_none e n)]; exact h b u e
theorem same_new {H : Hp} {l : Addr} {o : HO} (n : H l = none) : Same H (upd H l o) := same_upd (Same.refl H) n
def New (H : Hp) (o : HO) (Q : VK) : Prop := ∀ p H', H p = none → Same H H' → H' p = some o → (∀ b, b ≠ p → H' b = H b) → Q (.ref p) H'
theorem New.at {H : Hp} {o : HO} {Q : VK} (h : New H o Q) {p : Addr} (n : H p = none) : Q (.ref p) (upd H p o) := h p _ n (same_new n) upd_same fun b hb => upd_ne hb
def clOf (env : Env) : List (Str × NameKind) → List (Str × Addr) → List (Str × Addr)
  | [], cs => cs
  | (n, k) :: r, cs => clOf env r (if (k == NameKind.free) = true then (n, ((env.cells.lookup n).getD 0)) :: cs else cs)
theorem clOf_run {env : Env} : ∀ (l : List (Str × NameKind)) (cs : List (Str × Addr)), (∀ y ∈ l, y.2 = .free → ∃ c, env.cells.lookup y.1 = some c) →
    (forIn l cs fun (x : Str × NameKind) (r : List (Str × Addr)) => (match x with
      | (name, kind) => if (kind == NameKind.free) = true then do let a ← cellOf env name; pure (ForInStep.yield ((name, a) :: r)) else pure (ForInStep.yield r) : Sem (ForInStep (List (Str × Addr))))) = (pure (clOf env l cs) : Sem _)
  | [], cs, _ => by rw [List.forIn_nil]; rfl
  | (n, k) :: r, cs, h => by
    rw [List.forIn_cons]
    have hr := fun cs' => clOf_run r cs' fun y hy => h y (List.mem_cons_of_mem _ hy)
    by_cases hk : (k == NameKind.free) = true
    · obtain ⟨c, hc⟩ := h (n, k) List.mem_cons_self (by simpa using hk)
      have hc : env.cells.lookup n = some c := hc
      simp only [hk, if_true, cellOf, hc, pure_bind, clOf, Option.getD_some]
      exact hr _
    · have hk : (k == NameKind.free) = false := by simpa using hk
      simp only [hk, Bool.false_eq_true, if_false, pure_bind, clOf]
      exact hr _
theorem closure_ok {env : Env} {scope : Scope} (h : ∀ y ∈ scope.names, y.2 = .free → ∃ c, env.cells.lookup y.1 = some c) : closureFor scope env = pure (clOf env scope.names []) := by
  unfold closureFor
  have e := clOf_run scope.names [] h
  first
    | exact e
    | (simp only [bind_pure_comp, id_map'] ; exact e)
    | (rw [show (do let cs ← _; return cs) = _ from bind_pure _]; exact e)
    | (simp; simpa using e)
theorem clOf_sub {env : Env} : ∀ (l : List (Str × NameKind)) (cs : List (Str × Addr)), (∀ y ∈ l, y.2 = .free → ∃ c, env.cells.lookup y.1 = some c) → (∀ p ∈ cs, env.cells.lookup p.1 = some p.2) →
    ∀ p ∈ clOf env l cs, env.cells.lookup p.1 = some p.2
  | [], cs, _, hc => hc
  | (n, k) :: r, cs, h, hc => by
    refine clOf_sub r _ (fun y hy => h y (List.mem_cons_of_mem _ hy)) ?_
    by_cases hk : (k == NameKind.free) = true
    · obtain ⟨c, e⟩ := h (n, k) List.mem_cons_self (by simpa using hk)
      have e : env.cells.lookup n = some c := e
      rw [if_pos hk]
      intro p hp
      rcases List.mem_cons.mp hp with rfl | hp
      · show env.cells.lookup n = some ((env.cells.lookup n).getD 0)
        rw [e]; rfl
      · exact hc p hp
    · rw [if_neg hk]; exact hc
theorem clOf_keep {env : Env} : ∀ (l : List (Str × NameKind)) (cs : List (Str × Addr)) (p : Str × Addr), p ∈ cs → p ∈ clOf env l cs
  | [], cs, p, h => h
  | (n, k) :: r, cs, p, h => by
    refine clOf_keep r _ p ?_
    split
    · exact List.mem_cons_of_mem _ h
    · exact h
theorem clOf_has {env : Env} : ∀ (l : List (Str × NameKind)) (cs : List (Str × Addr)) (x : Str), (x, NameKind.free) ∈ l → ∃ c, (x, c) ∈ clOf env l cs
  | (n, k) :: r, cs, x, h => by
    rcases List.mem_cons.mp h with h | h
    · have e1 : x = n := congrArg Prod.fst h
      have e2 : NameKind.free = k := congrArg Prod.snd h
      subst e1 e2
      refine ⟨(env.cells.lookup x).getD 0, clOf_keep r _ (x, _) ?_⟩
      rw [if_pos (by simp)]
      exact List.mem_cons_self
    · exact clOf_has r _ x h
theorem lookup_of_mem {α : Type} : ∀ {l : List (Str × α)} {x : Str} {c : α}, (x, c) ∈ l → ∃ d, l.lookup x = some d
  | (n, v) :: r, x, c, h => by
    by_cases e : x == n
    · exact ⟨v, by simp [List.lookup_cons, e]⟩
    · rcases List.mem_cons.mp h with h | h
      · cases h; exact absurd (by simp) e
      · obtain ⟨d, hd⟩ := lookup_of_mem h
        exact ⟨d, by simp [List.lookup_cons, e, hd]⟩
def csOk (sc : Scope) (NX N' : List Str) (cs : List (Option Nat)) (scope : Scope) : Bool :=
  (scope.kind == .function) && (scope.names.all fun y => y.2 != .cell) && (scope.names.all fun y => y.2 != .local || scope.names.lookup y.1 == some .local) &&
  (scope.names.all fun y => y.2 != .free || (sc.names.lookup y.1 == some .cell || sc.names.lookup y.1 == some .free)) &&
  decide (cs.length = N'.length) &&
  ((List.range cs.length).all fun j => match cs[j]? with
    | some (some i) => (match N'[j]? with | some x => decide (NX[i]? = some x) && (scope.names.lookup x == some .free) | none => false)
    | _ => true)
structure CsOk (sc : Scope) (NX N' : List Str) (cs : List (Option Nat)) (scope : Scope) : Prop where
  kind : scope.kind = .function
  nocell : ∀ y ∈ scope.names, y.2 ≠ .cell
  names : ∀ y ∈ scope.names, y.2 = .local → scope.names.lookup y.1 = some .local
  free : ∀ y ∈ scope.names, y.2 = .free → sc.names.lookup y.1 = some .cell ∨ sc.names.lookup y.1 = some .free
  len : cs.length = N'.length
  capt : ∀ (j i : Nat) (x : Str), cs[j]? = some (some i) → N'[j]? = some x → NX[i]? = some x ∧ scope.names.lookup x = some .free
theorem CsOk.of {sc : Scope} {NX N' : List Str} {cs : List (Option Nat)} {scope : Scope} (h : csOk sc NX N' cs scope = true) : CsOk sc NX N' cs scope := by
  unfold csOk at h
  simp only [Bool.and_eq_true] at h
  obtain ⟨⟨⟨⟨⟨h1, h2⟩, h3⟩, h4⟩, h5⟩, h6⟩ := h
  refine ⟨by simpa using h1, fun y hy => ?_, fun y hy e => ?_, fun y hy e => ?_, of_decide_eq_true h5, fun j i x e1 e2 => ?_⟩
  · have := List.all_eq_true.mp h2 y hy; simpa using this
  · have := List.all_eq_true.mp h3 y hy; simpa [e] using this
  · have := List.all_eq_true.mp h4 y hy; simpa [e] using this
  · have hj : j < cs.length := (List.getElem?_eq_some_iff.mp e1).1
    have := List.all_eq_true.mp h6 j (List.mem_range.mpr hj)
    rw [e1, e2] at this
    simpa using this
def cxC (X : Cx) (N' : List Str) (scope : Scope) (fp : List Addr) (s3 : Shared) (H3 : Hp) : Cx where
  prog := X.prog
  w := X.w
  K := X.K
  mg := X.mg
  base := X.base
  A := X.A
  N := N'
  s₀ := s3
  H₀ := H3
  env := compEnvC scope (clOf X.env scope.names []) s3.heap.objs.size X.env
  outer := X.stack
  stack := X.stack
  ex := fp
  fn := fun _ => false
  calm := X.calm
  pn := []
  xe := fun _ _ => False
def cst (cs : List (Option Nat)) (σ : St) : St := cs.map fun o => match o with | some i => (σ[i]?).getD none | none => none
def PTs (X : Cx) (ifs : List Expr) (t : TT) : Prop :=
  ∀ (pins : List (Addr × Obj)) (s : Shared) (σ : St) (H : Hp) (Q : Bool → Hp → Prop), Inv X pins σ H s → t σ H Q →
    wpAny (model X.prog X.w) X.A (forIn ifs true fun c r => if r = true then do let ok ← isTrue c X.env (eval c X.env); pure (ForInStep.yield ok) else pure (ForInStep.yield r)) (TP X pins σ Q) X.xe s
def tT0 : TT := fun _ H Q => Q true H
theorem pts_nil {X : Cx} : PTs X [] tT0 := fun pins s σ H Q I h => wpAny_tests_nil ⟨H, I, h⟩
def CompW (J : It) (g : TG) (tt : TT) (te : TE) (acc : Addr) (σ0 : St) (H0 : Hp) (Q : Hp → Prop) : Prop :=
  ∃ W : Nat → Nat → St → Hp → Prop, (∃ m, W 0 m σ0 H0) ∧ ∀ i m σ H, W i m σ H →
    (J.stop i H ∧ Q H) ∨ (J.go i H ∧ ∀ x H1, J.yld i H x H1 → g x σ H1 fun σ2 H2 => tt σ2 H2 fun b H3 =>
      if b = true then te σ2 H3 fun y H4 => ∃ ys, H4 acc = some (.lst ys) ∧ ys.length < sizeLine ∧ ∃ m', m' < m ∧ W (i + 1) m' σ2 (upd H4 acc (.lst (ys ++ [y])))
      else ∃ m', m' < m ∧ W (i + 1) m' σ2 H3)
def tComp (cs : List (Option Nat)) (wi : TI) (g : TG) (tt : TT) (te : TE) : TE := fun σ H Q => wi σ H fun J H1 => ∀ acc, H1 acc = none → CompW J g tt te acc (cst cs σ) (upd H1 acc (.lst [])) (Q (.ref acc))
section
variable {prog : Program} {w : World} {A : Around} {R : Result → Shared → Prop} {s : Shared}
theorem compLoop_any {elt target iter : Expr} {ifs : List Expr} {scope : Scope} {pos : Pos} {it acc : Value} {env : Env} (I : Nat → Shared → Prop)
    (turn : ∀ n s, I n s → wpAny (model prog w) A (pyNext it) (fun r s₁ => match r with
      | none => R (.ok .next) s₁
      | some v => wpAny (model prog w) A (letOwnedTupleGo target it v) (fun _ s₁ => wpAny (model prog w) A (assign target env v) (fun _ s₂ =>
          wpAny (model prog w) A (forIn ifs true fun c r => if r = true then do let ok ← isTrue c env (eval c env); pure (ForInStep.yield ok) else pure (ForInStep.yield r)) (fun ok s₃ =>
            if ok = true then wpAny (model prog w) A (eval elt env) (fun x s₄ =>
              wpAny (model prog w) A (call (.builtin "list.append") [acc, x]) (fun _ s₅ => ∃ m, m < n ∧ I m s₅) (notedBy (model prog w) A env fun e s' => R (.error e) s') s₄) (notedBy (model prog w) A env fun e s' => R (.error e) s') s₃
            else ∃ m, m < n ∧ I m s₃) (notedBy (model prog w) A env fun e s' => R (.error e) s') s₂) (notedBy (model prog w) A env fun e s' => R (.error e) s') s₁) (notedBy (model prog w) A env fun e s' => R (.error e) s') s₁) (notedBy (model prog w) A env fun e s' => R (.error e) s') s)
    (n : Nat) (h : I n s) :
    codeAny (model prog w) A (.compLoop (.ListComp elt [⟨target, iter, ifs, 0⟩] scope pos) 0 it acc env) R s := by
  refine codeAny_loop rfl I (fun n s hI => ?_) n h
  show wpAny _ A ((compTurn (.ListComp elt [⟨target, iter, ifs, 0⟩] scope pos) 0 it acc env).onRaise (fun x => do noteFrame x env; theTreesLotGoes x)) _ _ s
  refine wpAny_noted ?_
  rw [compTurn_list]
  refine wpAny_bind (wpAny_standAt (wpAny_bind (wpAny_mono (turn n s hI) (fun r s₁ h₁ => ?_) fun _ _ h' => h')))
  cases r with
  | none => exact wpAny_pure h₁
  | some v =>
    refine wpAny_bind (wpAny_mono h₁ (fun _ s₁ h₁ => ?_) fun _ _ h' => h')
    refine wpAny_bind (wpAny_mono h₁ (fun _ s₂ h₂ => wpAny_bind (wpAny_mono h₂ (fun ok s₃ h₃ => ?_) fun _ _ h' => h')) fun _ _ h' => h')
    cases ok with
    | false => exact wpAny_pure ⟨rfl, h₃⟩
    | true =>
      exact wpAny_bind (wpAny_bind (wpAny_mono h₃ (fun x s₄ h₄ => wpAny_bind (wpAny_mono h₄ (fun _ s₅ h₅ => wpAny_pure (wpAny_pure ⟨rfl, h₅⟩)) fun _ _ h' => h')) fun _ _ h' => h'))
end
section
variable {X : Cx} {pins : List (Addr × Obj)} {σ : St} {H2 : Hp} {s2 : Shared}
theorem relabel_free {scope : Scope} {env : Env} : ∀ {l : List (Str × NameKind)} {x : Str} {k : NameKind},
    (l.map fun (n, k) => if (k == NameKind.free && env.scope.kind == .function && env.kindOf n == some .cell) then (n, NameKind.cell) else (n, k)).lookup x = some k →
    l.lookup x = some k ∨ (l.lookup x = some .free ∧ k = .cell)
  | [], x, k, h => by simp at h
  | (n, k') :: r, x, k, h => by
    have ih := @relabel_free scope env r x k
    rw [List.map_cons] at h
    by_cases hx : (x == n) = true
    · by_cases hc : (k' == NameKind.free && env.scope.kind == .function && env.kindOf n == some .cell) = true
      · simp only [hc, if_true, List.lookup_cons, hx] at h
        have e : k' = .free := by simp only [Bool.and_eq_true] at hc; simpa using hc.1.1
        simp only [List.lookup_cons, hx]
        exact .inr ⟨by rw [e], (Option.some.inj h).symm⟩
      · simp only [hc, if_false, List.lookup_cons, hx, Bool.false_eq_true] at h
        simp only [List.lookup_cons, hx]
        exact .inl h
    · have hx : (x == n) = false := by simpa using hx
      by_cases hc : (k' == NameKind.free && env.scope.kind == .function && env.kindOf n == some .cell) = true
      · simp only [hc, if_true, List.lookup_cons, hx] at h
        simp only [List.lookup_cons, hx]
        exact ih h
      · simp only [hc, if_false, List.lookup_cons, hx, Bool.false_eq_true] at h
        simp only [List.lookup_cons, hx]
        exact ih h
theorem comp_core {elt target iter : Expr} {ifs : List Expr} {scope : Scope} {pos : Pos} {E : Value → Shared → Prop} {N' : List Str} {cs : List (Option Nat)} {it : Addr} {fp : List Addr} {tn : Nat → Heap → Prop} {J : It} {g : TG} {tt : TT} {te : TE} {Q : VK}
    {RR : Value → Addr → Result → Shared → Prop} (hc : X.calm = true) (F : CsOk X.env.scope X.N N' cs scope)
    (hg : ∀ s3 H3, PG (cxC X N' scope fp s3 H3) target g) (ht : ∀ s3 H3, PTs (cxC X N' scope fp s3 H3) ifs tt) (he : ∀ s3 H3, PE (cxC X N' scope fp s3 H3) elt te)
    (I2 : Inv X pins σ H2 s2) (T : Turn X.prog X.w X.K target J fp it tn) (st2 : tn 0 s2.heap) (f2 : ∀ b ∈ fp, FpOk X pins H2 b)
    (hW : ∀ acc, H2 acc = none → CompW J g tt te acc (cst cs σ) (upd H2 acc (.lst [])) (Q (.ref acc)))
    (hRR : ∀ D C s' H' m, Inv X pins σ H' s' → s'.heap.Ns C m → H' C = none → C ≠ X.env.locals → X.s₀.heap.objs.size ≤ C → (∀ x c, X.env.cells.lookup x = some c → c ≠ C) → (∀ p ∈ X.pn ++ pins, p.1 ≠ C) → Q (.ref D) H' → RR (.ref D) C (.ok .next) s') :
    wpAny (model X.prog X.w) X.A (newList []) (fun acc s₃ => wpAny (model X.prog X.w) X.A (newFunctionEnv scope X.env.globals (clOf X.env scope.names []) [] X.env.qual none .none (some X.env)) (fun cenv s₄ =>
      codeAny (model X.prog X.w) X.A (.compStart (.ListComp elt [⟨target, iter, ifs, 0⟩] scope pos) 0 (.ref it) acc { cenv with scope := relabel scope X.env }) (RR acc cenv.locals) s₄) E s₃) E s2 := by
  refine wpAny_newObj_type (wpAny_newFunctionEnv F.nocell (by intro y hy; simp at hy) (fun h₁ hns₁ hsb₁ => ?_) F.kind)
  dsimp only at hns₁ hsb₁ ⊢
  have hfree : ∀ y ∈ scope.names, y.2 = .free → ∃ c, X.env.cells.lookup y.1 = some c := fun y hy e => I2.ok.has y.1 (F.free y hy e)
  have sub : ∀ x c, (clOf X.env scope.names []).lookup x = some c → X.env.cells.lookup x = some c := fun x c e => clOf_sub scope.names [] hfree (by simp) (x, c) (PySem.mem_of_lookup e)
  obtain ⟨W, ⟨m0, w0⟩, turn⟩ := hW s2.heap.objs.size I2.fresh
  have I3 := I2.lnew (t' := s2.toks) (its := []) (ys := []) .nil (Nat.zero_le _)
  generalize hs3 : ({ s2 with heap := s2.heap.push { cls := .type "list", data := .seq ([] : List Value).toArray }, toks := s2.toks } : Shared) = s3 at I3
  generalize hH3 : upd H2 s2.heap.objs.size (HO.lst []) = H3 at I3 w0
  have e3 : s2.heap.push { cls := .type "list", dict := none, data := .seq ([] : List Value).toArray } = s3.heap := by rw [← hs3]
  rw [e3] at hns₁ hsb₁ ⊢
  have old : ∀ b o, s3.heap.get? b = some o → h₁.get? b = some o := fun b o e => hsb₁.extBut b o (Nat.ne_of_lt (Heap.lt_size e)) (Heap.get?_push_of_some _ e)
  have sz3 : s3.heap.objs.size = s2.heap.objs.size + 1 := by rw [← hs3]; exact Heap.size_push ..
  have fpn3 : ∀ b ∈ fp, H3 b = none := fun b hb => by
    obtain ⟨o, ho, _⟩ := T.obj 0 _ st2 b hb
    rw [← hH3, upd_ne (Nat.ne_of_lt (Heap.lt_size ho))]
    exact (f2 b hb).1
  have fplt : ∀ b ∈ fp, b < s3.heap.objs.size := fun b hb => by
    obtain ⟨o, ho, _⟩ := T.obj 0 _ st2 b hb
    exact Nat.lt_of_lt_of_le (Heap.lt_size ho) (by rw [sz3]; exact Nat.le_succ _)
  -- the block's own facts
  have okC : (cxC X N' scope fp s3 H3).Ok := by
    refine ⟨I3.ok.mod, F.kind, I3.ok.glob, I3.ok.blt, Nat.le_refl _, fun x y c h1 h2 => I3.ok.inj x y c (sub x c h1) (sub y c h2), fun x hx => ?_, fun x c h => (Bool.false_ne_true h).elim, I3.ok.hd, I3.ok.frames, .inl rfl, fun b hb => ⟨Nat.ne_of_lt (fplt b hb), fun x c e => (f2 b hb).2.2.2.2.1 x c (sub x c e)⟩,
      I3.bs, Nat.le_trans I3.ok.bsz I3.sz, fun b o e hb => ?_, fun b hb z => ?_, I3.stack, I3.stkFree⟩
    · have hx : scope.names.lookup x = some .free := by
        rcases hx with hx | hx
        · rcases relabel_free (scope := scope) (env := X.env) hx with q | ⟨q, _⟩
          · exact absurd rfl (F.nocell _ (PySem.mem_of_lookup q))
          · exact q
        · rcases relabel_free (scope := scope) (env := X.env) hx with q | ⟨q, z⟩
          · exact q
          · cases z
      obtain ⟨c, hm⟩ := clOf_has (env := X.env) scope.names [] x (PySem.mem_of_lookup hx)
      exact lookup_of_mem hm
    · rcases (f2 b hb).2.2.2.1 with z | z
      · exact I3.ok.noex b o e z
      · have h1 := Heap.lt_size e
        have h2 := I3.ok.bsz
        exact absurd (Nat.lt_of_lt_of_le h1 h2) (Nat.not_lt.mpr z)
    · rcases List.mem_cons.mp (I3.stkSub b z) with q | q
      · exact (f2 b hb).2.1 q
      · exact (f2 b hb).2.2.1 q
  have σlen : (cst cs σ).length = N'.length := by unfold cst; rw [List.length_map]; exact F.len
  have IC : Inv (cxC X N' scope fp s3 H3) [] (cst cs σ) H3 { s3 with heap := h₁, toks := s3.toks + ([] : List (Str × Value)).length } := by
    refine ⟨okC, rfl, I3.bare, Un.kept old, ⟨_, hns₁, fun j x v e1 e2 e3 => ?_⟩, fun x c e => ?_, I3.fresh, fun x c e => I3.freeC x c (sub x c e), fun p hp => absurd (show p ∈ ([] : List (Addr × Obj)) from hp) (by simp), I3.hok.kept old, σlen⟩
    · -- a name of the block that has a value is an outer one
      obtain ⟨i, hi, hv⟩ : ∃ i, cs[j]? = some (some i) ∧ σ[i]? = some (some v) := by
        unfold cst at e2
        rw [List.getElem?_map] at e2
        cases q : cs[j]? with
        | none => rw [q] at e2; cases e2
        | some o =>
          rw [q] at e2
          cases o with
          | none => cases e2
          | some i =>
            refine ⟨i, rfl, ?_⟩
            have e2 : (σ[i]?).getD none = some v := Option.some.inj e2
            cases q2 : σ[i]? with
            | none => rw [q2] at e2; cases e2
            | some z => rw [q2] at e2; exact congrArg some e2
      obtain ⟨hN, hf⟩ := F.capt j i x hi e1
      obtain ⟨m, hn, hl⟩ := I3.loc
      have hk := F.free _ (PySem.mem_of_lookup hf) rfl
      obtain ⟨u, r, l⟩ := hl i x v hN hv (.inr hk)
      refine ⟨u, r, .inr ⟨?_, ?_⟩⟩
      · rcases e3 with e3 | e3 | e3
        · rcases relabel_free (scope := scope) (env := X.env) e3 with q | ⟨_, z⟩
          · rw [hf] at q; cases q
          · cases z
        · exact .inl e3
        · exact .inr e3
      · rcases l with ⟨z, _⟩ | ⟨_, c, hc', hcell⟩
        · have z : X.env.scope.names.lookup x = some .local := z
          rcases hk with k | k <;> (rw [k] at z; cases z)
        · obtain ⟨c2, hm⟩ := clOf_has (env := X.env) scope.names [] x (PySem.mem_of_lookup hf)
          obtain ⟨c3, h3⟩ := lookup_of_mem hm
          have e4 := sub x c3 h3
          rw [hc'] at e4
          cases e4
          obtain ⟨o, ho, hd⟩ := hcell
          exact ⟨c, h3, o, old _ _ ho, hd⟩
    · obtain ⟨v, o, ho, hd⟩ := I3.cell x c (sub x c e)
      exact ⟨v, o, old _ _ ho, hd⟩
  have st4 : tn 0 h₁ := T.keep 0 s2.heap h₁ st2 fun b hb o e => old b o (by rw [← e3]; exact Heap.get?_push_of_some _ e)
  -- what stays true of the iterator's objects through the loop
  have stat : ∀ {H' : Hp}, (∀ b ∈ fp, H' b = none) → ∀ b ∈ fp, FpOk (cxC X N' scope fp s3 H3) [] H' b := fun hn b hb =>
    ⟨hn b hb, Nat.ne_of_lt (fplt b hb), okC.exfs b hb, .inl hb, fun x c e => (f2 b hb).2.2.2.2.1 x c (sub x c e), fun p hp => absurd (show p ∈ ([] : List (Addr × Obj)) from hp) (by simp)⟩
  have noE : ∀ {α : Type} {t : Sem α} {Q' : α → Shared → Prop} {E' : Value → Shared → Prop} {s' : Shared}, wpAny (model X.prog X.w) X.A t Q' (fun _ _ => False) s' → wpAny (model X.prog X.w) X.A t Q' E' s' := fun h => wpAny_mono h (fun _ _ q => q) fun _ _ f => f.elim
  -- behind the loop
  have fin : ∀ {σ' : St} {H' : Hp} {s' : Shared}, Inv (cxC X N' scope fp s3 H3) [] σ' H' s' → Q (.ref s2.heap.objs.size) H' → RR (.ref s2.heap.objs.size) s3.heap.objs.size (.ok .next) s' := fun {σ' H' s'} I' q => by
    obtain ⟨m, hn, _⟩ := I'.loc
    refine hRR _ _ s' H' m (I3.call' I'.os I'.base I'.hok I'.bare fun b hb => ?_) hn I'.free (Nat.ne_of_gt I3.lt) I3.sz (fun x c e z => ?_) (fun p hp z => ?_) q
    · obtain ⟨_, g1, _, g3, g4, g5⟩ := f2 b hb
      exact ⟨g3, g1, g4, g5⟩
    · obtain ⟨v, o, ho, _⟩ := I3.cell x c e
      exact absurd (Heap.lt_size ho) (by rw [z]; exact Nat.lt_irrefl _)
    · exact absurd (Heap.lt_size (I3.pin p hp).1) (by rw [z]; exact Nat.lt_irrefl _)
  have loop : codeAny (model X.prog X.w) X.A (.compLoop (.ListComp elt [⟨target, iter, ifs, 0⟩] scope pos) 0 (.ref it) (.ref s2.heap.objs.size) (cxC X N' scope fp s3 H3).env)
      (RR (.ref s2.heap.objs.size) s3.heap.objs.size) { s3 with heap := h₁, toks := s3.toks + ([] : List (Str × Value)).length } := by
    refine compLoop_any (fun n s' => ∃ i σ' H', Inv (cxC X N' scope fp s3 H3) [] σ' H' s' ∧ tn i s'.heap ∧ (∀ b ∈ fp, H' b = none) ∧ W i n σ' H') ?_ m0 ⟨0, _, H3, IC, st4, fpn3, w0⟩
    rintro n s4 ⟨i, σ4, H4, I4, st4, fr4, w4⟩
    rcases turn i n σ4 H4 w4 with ⟨stop, qn⟩ | ⟨go, step⟩
    · refine thn (T.done (cxC X N' scope fp s3 H3) rfl rfl rfl hc i [] s4 σ4 H4 _ I4 (stat fr4) st4 stop) fun r s5 ⟨hr, I5⟩ => ?_
      subst hr
      exact fin I5 qn
    · refine thn (T.item (cxC X N' scope fp s3 H3) rfl rfl rfl hc i [] s4 σ4 H4 _ I4 (stat fr4) st4 go) fun r s5 ⟨u, hr, h5⟩ => ?_
      subst hr
      refine thn h5 fun _ s6 ⟨x, H6, I6, r6, y6, st6, fr6⟩ => ?_
      have I6' := I6.pinned (stat fr6) (T.obj _ _ st6)
      have keepT : ∀ {σ7 : St} {H7 : Hp} {s7 : Shared}, Inv (cxC X N' scope fp s3 H3) ([] ++ pinsAt fp s6.heap) σ7 H7 s7 → tn (i + 1) s7.heap ∧ ∀ b ∈ fp, H7 b = none := fun {σ7 H7 s7} I7 =>
        ⟨T.keep _ _ _ st6 fun b hb o e => (I7.pin (b, o) (List.mem_append_right _ (List.mem_append_right _ (mem_pinsAt hb e)))).1, fun b hb => by
          obtain ⟨o, e, d⟩ := T.obj _ _ st6 b hb
          exact (I7.pin (b, o) (List.mem_append_right _ (List.mem_append_right _ (mem_pinsAt hb e)))).2.1⟩
      refine noE (thn (hg s3 H3 _ s6 σ4 H6 x u _ I6' r6 (step x H6 y6)) fun _ s7 ⟨σ7, H7, I7, q7⟩ => ?_)
      refine noE (thn (ht s3 H3 _ s7 σ7 H7 _ I7 q7) fun b s8 ⟨H8, I8, q8⟩ => ?_)
      cases b with
      | false =>
        rw [if_neg Bool.false_ne_true] at q8 ⊢
        obtain ⟨m', hm, w8⟩ := q8
        obtain ⟨t8, n8⟩ := keepT I8
        exact ⟨m', hm, i + 1, σ7, H8, I8.unpinned, t8, n8, w8⟩
      | true =>
        rw [if_pos rfl] at q8 ⊢
        refine noE (thn (he s3 H3 _ s8 σ7 H8 _ I8 q8) fun v s9 ⟨y, H9, I9, r9, ys, hacc, hz, m', hm, w9⟩ => ?_)
        refine noE (thn (mt_append (X := cxC X N' scope fp s3 H3) _ s9 σ7 H9 (.ref s2.heap.objs.size) [y] (.ref s2.heap.objs.size) [v] (fun _ H' => W (i + 1) m' σ7 H') I9 rfl (.cons r9 .nil) ⟨_, ys, y, rfl, rfl, hacc, hz, w9⟩) fun _ s10 ⟨_, H10, I10, _, w10⟩ => ?_)
        obtain ⟨t10, n10⟩ := keepT I10
        exact ⟨m', hm, i + 1, σ7, H10, I10.unpinned, t10, n10, w10⟩
  have e5 : ({ s2 with heap := h₁, toks := s2.toks + ([] : List (Str × Value)).length } : Shared) = { s3 with heap := h₁, toks := s3.toks + ([] : List (Str × Value)).length } := by rw [← hs3]
  rw [e5]
  exact codeAny_compStart_list loop (T.self _ 0 _ _ _ st4 loop)
end
section
variable {X : Cx}
theorem pe_comp {elt target iter : Expr} {ifs : List Expr} {scope : Scope} {pos : Pos} {wi : TI} {g : TG} {tt : TT} {te : TE} {sc : Scope} {NX : List Str} (N' : List Str) (cs : List (Option Nat)) (hc : X.calm = true)
    (hi : PI X target iter wi) (hg : ∀ fp s3 H3, PG (cxC X N' scope fp s3 H3) target g) (ht : ∀ fp s3 H3, PTs (cxC X N' scope fp s3 H3) ifs tt) (he : ∀ fp s3 H3, PE (cxC X N' scope fp s3 H3) elt te)
    (hsc : X.env.scope = sc) (hN : X.N = NX) (hcs : csOk sc NX N' cs scope = true) (hs : ∀ x, foldedSetIterable iter X.env x = pure x := by intro _; rfl) :
    PE X (.ListComp elt [⟨target, iter, ifs, 0⟩] scope pos) (tComp cs wi g tt te) := by
  intro pins s σ H Q I h
  subst hsc hN
  have F := CsOk.of hcs
  rw [eval_ListComp]
  refine wpAny_comprehension_free (use := none) rfl hs (closure_ok fun y hy e => I.ok.has y.1 (F.free y hy e)) F.kind F.names ?_
  refine thn (hi pins s σ H _ I h) fun v s1 h1 => thn h1 fun itv s2 h2 => ?_
  obtain ⟨it, fp, tn, J, H2, rfl, I2, T, st2, f2, hW⟩ := h2
  refine comp_core (RR := fun acc C => compPost (model X.prog X.w) X.A X.xe none (EP X pins σ Q) acc C) (Q := Q) hc F (hg fp) (ht fp) (he fp) I2 T st2 f2 hW ?_
  intro D C s' H' m I' hn hC hL hsz hcell hpin q
  refine ⟨m, hn, fun h' hs' => ⟨.ref D, H', ?_, rfl, q⟩⟩
  exact I'.turned (t' := s'.toks) (it := C) (fun b o hb e => (hs'.2 b hb).trans e) hC hL (.inr hsz) hcell hpin
end
end L3
namespace L3
open PySem PySem.Spec PyProof.Rows L2
section
variable {X : Cx}
def rInsert : V → List V → Hp → VK → Prop := fun x vs H Q => ∃ l xs i y, x = .ref l ∧ vs = [.int i, y] ∧ H l = some (.lst xs) ∧ 0 ≤ i ∧ i ≤ xs.length ∧ xs.length < sizeLine ∧ Q .non (upd H l (.lst (xs.take i.toNat ++ y :: xs.drop i.toNat)))
theorem insert_eq (its : List Value) (i : Int) (u : Value) (h0 : 0 ≤ i) (h1 : i ≤ its.length) :
    (fun xs : Array Value => have k := if i < 0 then (i + ((xs.size : Nat) : Int)).toNat else min i.toNat xs.size; (xs.extract 0 k).push u ++ xs.extract k) its.toArray = (its.take i.toNat ++ u :: its.drop i.toNat).toArray := by
  have e : (if i < 0 then (i + ((its.toArray.size : Nat) : Int)).toNat else min i.toNat its.toArray.size) = i.toNat := by
    rw [if_neg (by omega), List.size_toArray]; omega
  show ((its.toArray.extract 0 _).push u ++ its.toArray.extract _) = _
  rw [e]
  apply Array.ext'
  simp
  exact List.take_of_length_le (by rw [List.length_drop]; omega)
theorem mt_insert : MtM X "list.insert" rInsert := by
  intro pins s σ H x vs v us Q I rx rv h
  obtain ⟨l, xs, i, y, rfl, rfl, hH, h0, h1, hz, q⟩ := h
  cases rx
  obtain ⟨u1, u2, rfl, ⟨t, rfl⟩, ru⟩ := rv.two
  obtain ⟨z, its, n, r, hl, e⟩ := I.lstM hH
  have hs := sizeLine_eq
  have hfit : ¬ (!Builtin.List.listFitsIndex i) = true := by
    have q : Builtin.List.listFitsIndex i = true := by
      unfold Builtin.List.listFitsIndex
      simp only [Bool.and_eq_true, decide_eq_true_eq]
      constructor <;> omega
    rw [q]; decide
  refine call_meets F.slot_list_insert ⟨_, e, rfl⟩ F.entry_list_insert (F.args_list_insert_3 _ _ _) (AutoListH.list_insert_list_int_val_1 l its.toArray n i t u2 hfit (by rw [List.size_toArray]; omega)) ⟨e, ?_⟩
  refine ⟨.non, _, I.lset (its' := its.take i.toNat ++ u2 :: its.drop i.toNat) hH e (insert_eq its i u2 h0 (by omega)) ((r.take _).append (.cons ru (r.drop _))) ?_, rfl, q⟩
  simp only [List.length_append, List.length_take, List.length_cons, List.length_drop]
  omega
def tRng1 (ta : TA) : TE := fun σ H Q => ta σ H fun vs H1 => ∃ j : Int, vs = [.int j] ∧ New H1 (.rng 0 j) Q
theorem pe_range1 {a : Expr} {ta : TA} {p pos : Pos} (hg : Gl X "range") (hm : X.mg "range" = none) (ha : PA X [a] ta) (hs : starEach [a] X.env = [(false, eval a X.env)] := by rfl) : PE X (.Call (.Name "range" p) [a] [] pos) (tRng1 ta) := by
  intro pins s σ H Q I h
  refine Call_ (ld_blt I hg hm boot_range (PyProof.Rows.callWith_type1 (thn (ha pos pins s σ H _ I h) fun us s1 ⟨vs, H1, I1, r1, q1⟩ => ?_) hs rfl))
  obtain ⟨j, e, q⟩ := q1
  subst e
  cases r1 with
  | cons r rr =>
    cases rr
    obtain ⟨t, rfl⟩ := r
    refine call_range_1 ⟨.ref s1.heap.objs.size, _, I1.laid (o := .rng 0 j) (fun _ _ q => Heap.get?_push_of_some _ q) (Nat.le_refl _) ?_, rfl, q.at I1.fresh⟩
    exact ⟨_, _, _, Heap.get?_push_size _ rfl⟩
def rangeVs (lo hi : Int) : List V := (List.range (hi - lo).toNat).map fun k : Nat => V.int (lo + k)
theorem vals_range : ∀ (n : Nat) (lo : Int) (us : List Value), us.length = n → (∀ (j : Nat) v, us[j]? = some v → ∃ t, v = Value.int (lo + j) t) → Vals ((List.range n).map fun k : Nat => V.int (lo + k)) us
  | 0, lo, us, hl, _ => by
    have : us = [] := List.length_eq_zero_iff.mp hl
    subst this; exact .nil
  | n + 1, lo, [], hl, _ => by simp at hl
  | n + 1, lo, u :: us, hl, h => by
    have e : (List.range (n + 1)).map (fun k : Nat => V.int (lo + k)) = V.int lo :: (List.range n).map fun k : Nat => V.int (lo + 1 + k) := by
      rw [List.range_succ_eq_map, List.map_cons, List.map_map]
      congr 1
      · simp
      · apply List.map_congr_left
        intro k _
        show V.int (lo + ((k + 1 : Nat) : Int)) = _
        congr 1; omega
    rw [e]
    obtain ⟨t, ht⟩ := h 0 u rfl
    refine .cons ⟨t, by rw [ht]; simp⟩ (vals_range n (lo + 1) us (by simpa using hl) fun j v hj => ?_)
    obtain ⟨t, ht⟩ := h (j + 1) v (by simpa using hj)
    exact ⟨t, by rw [ht]; congr 1; omega⟩
theorem call_list_rng (hc : X.calm = true) : CallR X (.type "list") (fun xs H Q => ∃ r lo hi, xs = [.ref r] ∧ H r = some (.rng lo hi) ∧ (-(2 ^ 62) ≤ lo ∧ lo < 2 ^ 62 ∧ -(2 ^ 62) ≤ hi ∧ hi < 2 ^ 62 ∧ hi - lo ≤ 2 ^ 24) ∧ New H (.lst (rangeVs lo hi)) Q) := by
  intro pins s σ H xs us Q I rv h
  obtain ⟨r, lo, hi, rfl, hr, ⟨h1, h2, h3, h4, h5⟩, q⟩ := h
  obtain ⟨u, rfl, ru⟩ := vals1 rv
  cases ru
  obtain ⟨t, u, v, e⟩ := I.hok r _ hr
  refine call_list_range (n := (hi - lo).toNat) (I.ok.hd hc) (a := lo) (b := hi) (c := 1) e (small_one h1 h2 h3 h4) (by rw [rangeSize_one]; split <;> omega) (by omega) fun h' tk acc c hk hD hI => ?_
  refine ⟨.ref s.heap.objs.size, _, I.laid (o := .lst (rangeVs lo hi)) hk (Nat.le_refl _) ?_, rfl, q.at I.fresh⟩
  refine ⟨?_, acc.toList, c, ?_, by rw [Array.toArray_toList]; exact hD⟩
  · unfold rangeVs
    rw [List.length_map, List.length_range, sizeLine_eq]; omega
  · refine vals_range _ _ _ (by rw [Array.length_toList]; exact hI.1) fun j v hj => ?_
    obtain ⟨t, ht⟩ := hI.2 j v (by rw [← hj, Array.getElem?_toList])
    exact ⟨t, by rw [ht]; congr 1; omega⟩
def tRev (K : PySem.W.Frag) (te : TE) (tk : TO) : TE := fun σ H Q => te σ H fun x H1 => tk σ H1 fun o H2 => o = some (-1) ∧ ∃ a xs, x = .ref a ∧ SqL K H2 a xs ∧ New H2 (.lst xs.reverse) Q
theorem pe_rev {e k : Expr} {te : TE} {tk : TO} {p2 pos : Pos} (he : PE X e te) (hk : PO X (some k) tk) : PE X (.Subscript e (.Slice none none (some k) p2) pos) (tRev X.K te tk) := by
  intro pins s σ H Q I h
  refine Subscript_ (thn (he pins s σ H _ I h) fun v s1 ⟨x, H1, I1, r1, q1⟩ => ?_)
  refine wpAny_Slice ?_
  rw [evalPart_none]
  refine wpAny_pure (wpAny_pure ?_)
  refine thn (hk pins s1 σ H1 _ I1 q1) fun vk s3 ⟨o, H3, I3, pk, eo, a, xs, hx, hS, q⟩ => ?_
  subst eo hx
  cases r1
  have I4 : Inv X pins σ H3 { s3 with heap := s3.heap.push { cls := .type "slice", data := .fields #[.none, .none, vk] } } := I3.kept (t' := s3.toks) fun b ob q => Heap.get?_push_of_some _ q
  obtain ⟨its, r, ht, hz⟩ := I4.list hS
  have hlen := r.length
  show wpAny (model X.prog X.w) X.A (subscriptTail e (.Slice none none (some k) p2) (.ref a) (.ref s3.heap.objs.size)) (EP X pins σ Q) X.xe { s3 with heap := s3.heap.push { cls := .type "slice", data := .fields #[.none, .none, vk] } }
  refine tail_any (ops := [.ref a, .ref s3.heap.objs.size]) ht.isList.typeIs slot_list_getitem.lookup ?_ (by with_unfolding_all rfl)
  refine wpAny_getItem_list_slice ht.isList (Heap.IsSliceOf.new ..) .none .none pk (by simp) ?_ (by rw [List.size_toArray] <;> omega)
  rw [PySem.W.krv_pick]
  refine ⟨.ref _, _, I4.laid (t' := s3.toks) (o := .lst xs.reverse) (fun b ob q => Heap.get?_push_of_some _ q) (Nat.le_refl _) ?_, rfl, q.at I4.fresh⟩
  exact ⟨by rw [List.length_reverse]; exact hz, _, 0, r.reverse, Heap.get?_push_size _ rfl⟩
def tTupN (t : TA) : TE := fun σ H Q => t σ H fun xs H1 => xs.length ≤ sizeLine ∧ New H1 (.tup xs) Q
def tLstN (t : TA) : TE := fun σ H Q => t σ H fun xs H1 => xs.length ≤ sizeLine ∧ New H1 (.lst xs) Q
theorem pe_tupN {es : List Expr} {t : TA} {x1} {pos : Pos} (h : PA X es t) : PE X (.Tuple es x1 pos) (tTupN t) := by
  intro pins s σ H Q I hq
  refine wpAny_Tuple_spliced (thn (h pos pins s σ H _ I hq) fun us s1 ⟨xs, H1, I1, r, z, q⟩ => ⟨by rw [← r.length]; exact z, ?_⟩)
  refine ⟨.ref s1.heap.objs.size, upd H1 s1.heap.objs.size (.tup xs), I1.laid (t' := s1.toks) (fun b u e => Heap.get?_push_of_some _ e) (Nat.le_refl _) ?_, rfl, q.at I1.fresh⟩
  exact ⟨z, us, r, ⟨_, Heap.get?_push_size _ rfl, rfl, _, rfl⟩⟩
theorem pe_lstN {es : List Expr} {t : TA} {pos : Pos} (h : PA X es t) : PE X (.List es pos) (tLstN t) := by
  intro pins s σ H Q I hq
  refine wpAny_List_spliced (thn (h pos pins s σ H _ I hq) fun us s1 ⟨xs, H1, I1, r, z, q⟩ => ⟨by rw [← r.length]; exact z, ?_⟩)
  refine ⟨.ref s1.heap.objs.size, upd H1 s1.heap.objs.size (.lst xs), I1.laid (t' := s1.toks) (fun b u e => Heap.get?_push_of_some _ e) (Nat.le_refl _) ?_, rfl, q.at I1.fresh⟩
  exact ⟨z, us, 0, r, Heap.get?_push_size _ rfl⟩
def rListN (K : PySem.W.Frag) : List V → Hp → VK → Prop := fun xs H Q => ∃ p ys, xs = [.ref p] ∧ (SqL K H p ys ∨ SqT K H p ys) ∧ New H (.lst ys) Q
theorem call_listN : CallR X (.type "list") (rListN X.K) := by
  intro pins s σ H xs us Q I r h
  obtain ⟨p, ys, e, hq, q⟩ := h
  exact call_list_of pins s σ H xs us Q I r ⟨p, ys, e, hq, fun l n => q.at n⟩
def rSlN (K : PySem.W.Frag) : V → Option Int → Option Int → Hp → VK → Prop := fun x lo hi H Q => ∃ a xs, x = .ref a ∧ SqL K H a xs ∧ New H (.lst (cutV xs lo hi)) Q
theorem sl_listN : SlR X (rSlN X.K) := by
  intro pins s σ H x v vl vu lo hi sl Q I rx hs pl pu h
  obtain ⟨a, xs, e, hx, q⟩ := h
  exact sl_list pins s σ H x v vl vu lo hi sl Q I rx hs pl pu ⟨a, xs, e, hx, fun p n => q.at n⟩
theorem call_isi : CallR X (.builtin "isinstance") (fun xs H Q => ∃ x T t b, xs = [x, .ty T] ∧ TyOf X.K H x t ∧ PySem.W.kitOne X.K t (.type T) = some b ∧ Q (.bl b) H) := by
  intro pins s σ H xs us Q I rv h
  obtain ⟨x, T, t, b, rfl, ty, e, q⟩ := h
  obtain ⟨u, c, rfl, rx, rc⟩ := vals2 rv
  cases (show c = Value.type T from rc)
  exact isinst_ok I rx ty e fun tk => ⟨.bl b, H, I.tok tk, rfl, q⟩
end
end L3
namespace L3
open PySem PySem.Spec PyProof.Rows L2
inductive D where
  | non | bl (b : Bool) | int (i : Int) | str (x : Str) | tup (xs : List D) | lst (xs : List D) | emp
mutual
def D.dep : D → Nat
  | .tup xs => deps xs + 1
  | .lst xs => deps xs + 1
  | _ => 0
def deps : List D → Nat
  | [] => 0
  | x :: r => max x.dep (deps r)
end
mutual
/-- what == tells -/
def D.eqv : D → D → Bool
  | .non, .non => true
  | .bl a, .bl b => a == b
  | .bl a, .int j => (if a then 1 else 0) == j
  | .int i, .bl b => i == (if b then 1 else 0)
  | .int i, .int j => i == j
  | .str x, .str y => x == y
  | .tup xs, .tup ys => eqvs xs ys
  | .lst xs, .lst ys => eqvs xs ys
  | .emp, .emp => true
  | _, _ => false
def eqvs : List D → List D → Bool
  | [], [] => true
  | x :: r, y :: q => x.eqv y && eqvs r q
  | _, _ => false
end
mutual
theorem D.eqv_refl : ∀ d : D, d.eqv d = true
  | .non => rfl
  | .bl b => by simp [D.eqv]
  | .int i => by simp [D.eqv]
  | .str x => by simp [D.eqv]
  | .tup xs => by rw [D.eqv]; exact eqvs_refl xs
  | .lst xs => by rw [D.eqv]; exact eqvs_refl xs
  | .emp => rfl
theorem eqvs_refl : ∀ xs : List D, eqvs xs xs = true
  | [] => rfl
  | x :: r => by rw [eqvs, D.eqv_refl x, eqvs_refl r]; rfl
end
mutual
/-- no bool and no dict in it -/
def D.pure : D → Bool
  | .bl _ => false
  | .emp => false
  | .tup xs => pures xs
  | .lst xs => pures xs
  | _ => true
def pures : List D → Bool
  | [] => true
  | x :: r => x.pure && pures r
end
mutual
theorem D.eqv_iff : ∀ d e : D, d.pure = true → e.pure = true → d.eqv e = true → d = e
  | .non, e, _, pe, h => by cases e <;> simp_all [D.eqv]
  | .bl b, e, pd, _, _ => by simp [D.pure] at pd
  | .int i, e, _, pe, h => by cases e <;> simp_all [D.eqv, D.pure]
  | .str x, e, _, pe, h => by cases e <;> simp_all [D.eqv]
  | .tup xs, e, pd, pe, h => by
    cases e with
    | tup ys => rw [D.eqv] at h; rw [D.pure] at pd pe; rw [eqvs_iff xs ys pd pe h]
    | _ => simp [D.eqv] at h
  | .lst xs, e, pd, pe, h => by
    cases e with
    | lst ys => rw [D.eqv] at h; rw [D.pure] at pd pe; rw [eqvs_iff xs ys pd pe h]
    | _ => simp [D.eqv] at h
  | .emp, e, _, pe, h => by cases e <;> simp_all [D.eqv]
theorem eqvs_iff : ∀ xs ys : List D, pures xs = true → pures ys = true → eqvs xs ys = true → xs = ys
  | [], ys, _, _, h => by cases ys <;> simp_all [eqvs]
  | x :: r, [], _, _, h => by simp [eqvs] at h
  | x :: r, y :: q, px, py, h => by
    rw [pures, Bool.and_eq_true] at px py
    rw [eqvs, Bool.and_eq_true] at h
    rw [D.eqv_iff x y px.1 py.1 h.1, eqvs_iff r q px.2 py.2 h.2]
end
theorem eqv_ne {d e : D} (pd : d.pure = true) (pe : e.pure = true) (h : d ≠ e) : d.eqv e = false := by
  cases q : d.eqv e with
  | false => rfl
  | true => exact absurd (D.eqv_iff d e pd pe q) h
mutual
inductive Rep (H : Hp) : V → D → Prop
  | non : Rep H .non .non
  | bl (b : Bool) : Rep H (.bl b) (.bl b)
  | int (i : Int) : Rep H (.int i) (.int i)
  | str (x : Str) : Rep H (.str x) (.str x)
  | tup {a : Addr} {vs : List V} {xs : List D} : H a = some (.tup vs) → Reps H vs xs → Rep H (.ref a) (.tup xs)
  | lst {a : Addr} {vs : List V} {xs : List D} : H a = some (.lst vs) → Reps H vs xs → Rep H (.ref a) (.lst xs)
  | emp {a : Addr} : H a = some (.dK []) → Rep H (.ref a) .emp
inductive Reps (H : Hp) : List V → List D → Prop
  | nil : Reps H [] []
  | cons {v : V} {d : D} {vs : List V} {ds : List D} : Rep H v d → Reps H vs ds → Reps H (v :: vs) (d :: ds)
end
mutual
theorem Rep.mono {H H' : Hp} {v : V} {d : D} : Rep H v d → Same H H' → Rep H' v d
  | .non, _ => .non
  | .bl b, _ => .bl b
  | .int i, _ => .int i
  | .str x, _ => .str x
  | .tup e r, s => .tup (s _ _ e) (r.mono s)
  | .lst e r, s => .lst (s _ _ e) (r.mono s)
  | .emp e, s => .emp (s _ _ e)
theorem Reps.mono {H H' : Hp} {vs : List V} {ds : List D} : Reps H vs ds → Same H H' → Reps H' vs ds
  | .nil, _ => .nil
  | .cons h r, s => .cons (h.mono s) (r.mono s)
end
theorem Reps.length {H : Hp} : ∀ {vs : List V} {ds : List D}, Reps H vs ds → vs.length = ds.length
  | _, _, .nil => rfl
  | _, _, .cons _ r => by rw [List.length_cons, List.length_cons, r.length]
theorem Reps.get {H : Hp} : ∀ {vs : List V} {ds : List D} {i : Nat} {v : V}, Reps H vs ds → vs[i]? = some v → ∃ d, ds[i]? = some d ∧ Rep H v d
  | _, _, i, v, .nil, e => by simp at e
  | _, _, 0, v, .cons h r, e => by simp at e; subst e; exact ⟨_, rfl, h⟩
  | _, _, i + 1, v, .cons h r, e => by
    obtain ⟨d, h1, h2⟩ := r.get (i := i) (v := v) (by simpa using e)
    exact ⟨d, by simpa using h1, h2⟩
theorem Reps.append {H : Hp} : ∀ {vs ws : List V} {ds es : List D}, Reps H vs ds → Reps H ws es → Reps H (vs ++ ws) (ds ++ es)
  | _, _, _, _, .nil, s => s
  | _, _, _, _, .cons h r, s => .cons h (r.append s)
theorem Reps.ints {H : Hp} : ∀ ns : List Int, Reps H (ns.map V.int) (ns.map D.int)
  | [] => .nil
  | n :: r => .cons (.int n) (Reps.ints r)
def rm (p : Addr) (H : Hp) : Hp := fun b => if b = p then none else H b
theorem rm_self {p : Addr} {H : Hp} : rm p H p = none := by unfold rm; rw [if_pos rfl]
theorem rm_ne {p b : Addr} {H : Hp} (h : b ≠ p) : rm p H b = H b := by unfold rm; rw [if_neg h]
theorem rm_same {p : Addr} {H : Hp} : Same (rm p H) H := fun b o e => by
  by_cases h : b = p
  · rw [h, rm_self] at e; cases e
  · rwa [rm_ne h] at e
theorem rm_mono {p : Addr} {H H' : Hp} (s : Same (rm p H) H') : Same (rm p H) (rm p H') := fun b o e => by
  by_cases h : b = p
  · rw [h, rm_self] at e; cases e
  · rw [rm_ne h]; exact s b o e
theorem rm_of {p : Addr} {H H' : Hp} (s : Same H H') (n : H p = none) : Same H (rm p H') := fun b o e => by
  rw [rm_ne (ne_of_none e n)]; exact s b o e
section
variable {X : Cx} {pins : List (Addr × Obj)} {σ : St} {H : Hp} {s : Shared}
theorem get_toArray {us : List Value} {j : Nat} (h : j < us.toArray.size) {v : Value} (e : us[j]? = some v) : us.toArray[j] = v := by
  obtain ⟨h', q⟩ := List.getElem?_eq_some_iff.mp e
  simpa using q
theorem range_all_eqvs (f : Nat → Bool) : ∀ (xs ys : List D), xs.length = ys.length → (∀ (j : Nat) x y, xs[j]? = some x → ys[j]? = some y → f j = x.eqv y) → (List.range xs.length).all f = eqvs xs ys := by
  intro xs
  induction xs generalizing f with
  | nil => intro ys hl _; cases ys with
    | nil => rfl
    | cons _ _ => simp at hl
  | cons x r ih =>
    intro ys hl h
    cases ys with
    | nil => simp at hl
    | cons y q =>
      rw [List.length_cons, List.range_succ_eq_map, List.all_cons, List.all_map, eqvs, h 0 x y rfl rfl]
      congr 1
      exact ih (fun j => f (j + 1)) q (by simpa using hl) fun j x' y' e1 e2 => h (j + 1) x' y' (by simpa using e1) (by simpa using e2)
theorem eqvs_len : ∀ (xs ys : List D), xs.length ≠ ys.length → eqvs xs ys = false
  | [], [], h => absurd rfl h
  | [], _ :: _, _ => rfl
  | _ :: _, [], _ => rfl
  | x :: r, y :: q, h => by rw [eqvs, eqvs_len r q (by simpa using h), Bool.and_false]
def ansAt (xs ys : List D) (j : Nat) : Bool := match xs[j]?, ys[j]? with
  | some x, some y => x.eqv y
  | _, _ => true
theorem range_min_eqvs (xs ys : List D) : ((List.range (min xs.length ys.length)).all (ansAt xs ys) && xs.length == ys.length) = eqvs xs ys := by
  by_cases h : xs.length = ys.length
  · rw [← h, Nat.min_self, beq_self_eq_true, Bool.and_true]
    refine range_all_eqvs _ xs ys h fun j x y e1 e2 => ?_
    unfold ansAt; rw [e1, e2]
  · rw [eqvs_len xs ys h, beq_eq_false_iff_ne.mpr h, Bool.and_false]
theorem IsTup.isT {h : Heap} {a : Addr} {its : Array Value} (t : IsTup h a its) : h.IsTuple a its := by
  first
  | exact t
  | (obtain ⟨o, e, c, n, d⟩ := t; exact ⟨o, e, c, n, d⟩)
  | (obtain ⟨o, e, c, n, d, _⟩ := t; exact ⟨o, e, c, n, d⟩)
mutual
theorem Rep.inj {H : Hp} {v : V} {d e : D} : Rep H v d → Rep H v e → d = e
  | .non, .non => rfl
  | .bl _, .bl _ => rfl
  | .int _, .int _ => rfl
  | .str _, .str _ => rfl
  | .tup e r, .tup e' r' => by rw [e] at e'; cases e'; rw [r.inj r']
  | .tup e r, .lst e' r' => by rw [e] at e'; cases e'
  | .tup e r, .emp e' => by rw [e] at e'; cases e'
  | .lst e r, .tup e' r' => by rw [e] at e'; cases e'
  | .lst e r, .lst e' r' => by rw [e] at e'; cases e'; rw [r.inj r']
  | .lst e r, .emp e' => by rw [e] at e'; cases e'
  | .emp e, .tup e' r' => by rw [e] at e'; cases e'
  | .emp e, .lst e' r' => by rw [e] at e'; cases e'
  | .emp e, .emp e' => rfl
theorem Reps.inj {H : Hp} {vs : List V} {ds es : List D} : Reps H vs ds → Reps H vs es → ds = es
  | .nil, .nil => rfl
  | .cons h r, .cons h' r' => by rw [h.inj h', r.inj r']
end
theorem dep_get : ∀ {xs : List D} {j : Nat} {x : D}, xs[j]? = some x → x.dep ≤ deps xs
  | [], j, x, e => by simp at e
  | y :: r, 0, x, e => by simp at e; subst e; rw [deps]; omega
  | y :: r, j + 1, x, e => by
    have := dep_get (xs := r) (j := j) (x := x) (by simpa using e)
    rw [deps]; omega
theorem pure_get : ∀ {xs : List D} {j : Nat} {x : D}, pures xs = true → xs[j]? = some x → x.pure = true
  | [], j, x, _, e => by simp at e
  | y :: r, 0, x, h, e => by simp at e; subst e; rw [pures, Bool.and_eq_true] at h; exact h.1
  | y :: r, j + 1, x, h, e => by rw [pures, Bool.and_eq_true] at h; exact pure_get (j := j) h.2 (by simpa using e)
theorem tupAt {P : Program} {w : World} (hok : HOk P w H s.heap) {a : Addr} {vs : List V} (e : H a = some (.tup vs)) : ∃ its : List Value, Vals vs its ∧ s.heap.IsTuple a its.toArray := by
  obtain ⟨_, its, r, t⟩ := hok a _ e
  exact ⟨its, r, IsTup.isT t⟩
theorem lstAt {P : Program} {w : World} (hok : HOk P w H s.heap) {a : Addr} {vs : List V} (e : H a = some (.lst vs)) : ∃ its : List Value, Vals vs its ∧ s.heap.IsList a its.toArray := by
  obtain ⟨_, its, n, r, t⟩ := hok a _ e
  exact ⟨its, r, _, t, rfl, n, rfl⟩
theorem items_ans {A : Around} {vs ws : List V} {xs ys : List D} {us zs : List Value} (rx : Reps H vs xs) (ry : Reps H ws ys) (qx : Vals vs us) (qy : Vals ws zs)
    (ih : ∀ (j : Nat) x y v w u z, xs[j]? = some x → ys[j]? = some y → Rep H v x → Rep H w y → RelV v u → RelV w z → SeqAt.EqAt A s u z (x.eqv y)) :
    ∀ j (h1 : j < us.toArray.size) (h2 : j < zs.toArray.size), SeqAt.EqAt A s us.toArray[j] zs.toArray[j] (ansAt xs ys j) := fun j h1 h2 => by
  have l1 := qx.length
  have l2 := qy.length
  rw [List.size_toArray] at h1 h2
  have g1 : vs[j]? = some (vs[j]'(by omega)) := List.getElem?_eq_getElem (by omega)
  have g2 : ws[j]? = some (ws[j]'(by omega)) := List.getElem?_eq_getElem (by omega)
  obtain ⟨u, hu, ru⟩ := qx.get g1
  obtain ⟨z, hz, rz⟩ := qy.get g2
  obtain ⟨x, hx, px⟩ := rx.get g1
  obtain ⟨y, hy, py⟩ := ry.get g2
  rw [get_toArray _ hu, get_toArray _ hz]
  unfold ansAt
  rw [hx, hy]
  exact ih j x y _ _ u z hx hy px py ru rz
theorem in1_units (A : Around) : A.in1.units = A.units + 1 := rfl
theorem eqAt_n {P : Program} {w : World} (hok : HOk P w H s.heap) : ∀ (n : Nat) (A : Around) {v w : V} {d e : D} {u z : Value}, d.dep ≤ n → Rep H v d → Rep H w e → RelV v u → RelV w z → d.pure = true → e.pure = true → A.units + n < cLine →
    SeqAt.EqAt A s u z (d.eqv e) := by
  intro n
  induction n with
  | zero =>
    intro A v w d e u z hd rd re ru rz pd pe hu
    cases rd with
    | bl _ => simp [D.pure] at pd
    | emp _ => simp [D.pure] at pd
    | tup _ _ => simp [D.dep] at hd
    | lst _ _ => simp [D.dep] at hd
    | non =>
      cases ru
      cases re with
      | bl _ => simp [D.pure] at pe
      | emp _ => simp [D.pure] at pe
      | non => cases rz; exact SeqAt.EqAt.same .none
      | int j => obtain ⟨t, rfl⟩ := rz; exact SeqAt.EqAt.none_int j t
      | str y => obtain ⟨t, rfl⟩ := rz; exact SeqAt.EqAt.none_str y t
      | tup ea _ => cases rz; obtain ⟨its, _, ht⟩ := tupAt hok ea; exact SeqAt.EqAt.none_tuple ht (by omega)
      | lst ea _ => cases rz; obtain ⟨its, _, ht⟩ := lstAt hok ea; exact SeqAt.EqAt.none_list ht (by omega)
    | int i =>
      obtain ⟨t, rfl⟩ := ru
      cases re with
      | bl _ => simp [D.pure] at pe
      | emp _ => simp [D.pure] at pe
      | non => cases rz; exact SeqAt.EqAt.int_none i t
      | int j => obtain ⟨t', rfl⟩ := rz; exact SeqAt.EqAt.int_int i t j t'
      | str y => obtain ⟨t', rfl⟩ := rz; exact SeqAt.EqAt.int_str i t y t'
      | tup ea _ => cases rz; obtain ⟨its, _, ht⟩ := tupAt hok ea; exact SeqAt.EqAt.int_tuple i t ht (by omega)
      | lst ea _ => cases rz; obtain ⟨its, _, ht⟩ := lstAt hok ea; exact SeqAt.EqAt.int_list i t ht (by omega)
    | str x =>
      obtain ⟨t, rfl⟩ := ru
      cases re with
      | bl _ => simp [D.pure] at pe
      | emp _ => simp [D.pure] at pe
      | non => cases rz; exact SeqAt.EqAt.str_none x t
      | int j => obtain ⟨t', rfl⟩ := rz; exact SeqAt.EqAt.str_int x t j t'
      | str y => obtain ⟨t', rfl⟩ := rz; exact SeqAt.EqAt.str_str x t y t'
      | tup ea _ => cases rz; obtain ⟨its, _, ht⟩ := tupAt hok ea; exact SeqAt.EqAt.str_tuple x t ht (by omega)
      | lst ea _ => cases rz; obtain ⟨its, _, ht⟩ := lstAt hok ea; exact SeqAt.EqAt.str_list x t ht (by omega)
  | succ n ih =>
    intro A v w d e u z hd rd re ru rz pd pe hu
    by_cases h0 : d.dep ≤ n
    · exact ih A h0 rd re ru rz pd pe (by omega)
    · have ihn : ∀ {xs ys : List D}, deps xs ≤ n → pures xs = true → pures ys = true → ∀ (j : Nat) x y v w u z, xs[j]? = some x → ys[j]? = some y → Rep H v x → Rep H w y → RelV v u → RelV w z → SeqAt.EqAt A.in1 s u z (x.eqv y) :=
        fun {xs ys} hx px py j x y v w u z e1 e2 r1 r2 q1 q2 => ih A.in1 (Nat.le_trans (dep_get e1) hx) r1 r2 q1 q2 (pure_get px e1) (pure_get py e2) (by rw [in1_units]; omega)
      cases rd with
      | non => simp [D.dep] at h0
      | bl _ => simp [D.dep] at h0
      | int _ => simp [D.dep] at h0
      | str _ => simp [D.dep] at h0
      | emp _ => simp [D.dep] at h0
      | @tup a vs xs ea rs =>
        cases ru
        obtain ⟨its, qi, hi⟩ := tupAt hok ea
        rw [D.dep] at hd
        rw [D.pure] at pd
        cases re with
        | bl _ => simp [D.pure] at pe
        | emp _ => simp [D.pure] at pe
        | non => cases rz; exact SeqAt.EqAt.tuple_none hi (by omega)
        | int j => obtain ⟨t', rfl⟩ := rz; exact SeqAt.EqAt.tuple_int j t' hi (by omega)
        | str y => obtain ⟨t', rfl⟩ := rz; exact SeqAt.EqAt.tuple_str y t' hi (by omega)
        | lst eb _ => cases rz; obtain ⟨its2, _, ht⟩ := lstAt hok eb; exact SeqAt.EqAt.tuple_list hi ht (by omega)
        | @tup b ws ys eb rs2 =>
          cases rz
          rw [D.pure] at pe
          by_cases hab : a = b
          · subst hab
            rw [ea] at eb; cases eb
            rw [rs.inj rs2, D.eqv_refl]
            exact SeqAt.EqAt.same _
          · obtain ⟨its2, qj, hj⟩ := tupAt hok eb
            refine SeqAt.EqAt.of_refs hab ?_
            have q := SeqAt.RcAt.tuples (A := A) hi hj (by omega) (e := ansAt xs ys) (items_ans rs rs2 qi qj (ihn (by omega) pd pe))
            have l1 := qi.length
            have l2 := qj.length
            rw [List.size_toArray, List.size_toArray, ← l1, ← l2, rs.length, rs2.length, range_min_eqvs] at q
            rw [D.eqv]; exact q
      | @lst a vs xs ea rs =>
        cases ru
        obtain ⟨its, qi, hi⟩ := lstAt hok ea
        rw [D.dep] at hd
        rw [D.pure] at pd
        cases re with
        | bl _ => simp [D.pure] at pe
        | emp _ => simp [D.pure] at pe
        | non => cases rz; exact SeqAt.EqAt.list_none hi (by omega)
        | int j => obtain ⟨t', rfl⟩ := rz; exact SeqAt.EqAt.list_int j t' hi (by omega)
        | str y => obtain ⟨t', rfl⟩ := rz; exact SeqAt.EqAt.list_str y t' hi (by omega)
        | tup eb _ => cases rz; obtain ⟨its2, _, ht⟩ := tupAt hok eb; exact SeqAt.EqAt.list_tuple hi ht (by omega)
        | @lst b ws ys eb rs2 =>
          cases rz
          rw [D.pure] at pe
          by_cases hab : a = b
          · subst hab
            rw [ea] at eb; cases eb
            rw [rs.inj rs2, D.eqv_refl]
            exact SeqAt.EqAt.same _
          · obtain ⟨its2, qj, hj⟩ := lstAt hok eb
            refine SeqAt.EqAt.of_refs hab ?_
            have l1 := qi.length
            have l2 := qj.length
            have l3 := rs.length
            have l4 := rs2.length
            by_cases hl : xs.length = ys.length
            · have q := SeqAt.RcAt.lists (A := A) hi hj (by rw [List.size_toArray, List.size_toArray]; omega) (by omega) (e := ansAt xs ys) (items_ans rs rs2 qi qj (ihn (by omega) pd pe))
              have e1 : its.toArray.size = xs.length := by rw [List.size_toArray]; omega
              rw [e1, range_all_eqvs (ansAt xs ys) xs ys hl fun j x y e1 e2 => by unfold ansAt; rw [e1, e2]] at q
              rw [D.eqv]; exact q
            · rw [D.eqv, eqvs_len xs ys hl]
              exact SeqAt.RcAt.lists_lengths hi hj (by rw [List.size_toArray, List.size_toArray]; simp; omega) (by omega)
end
section
variable {X : Cx} {pins : List (Addr × Obj)} {σ : St} {H : Hp} {s : Shared}
theorem rcAt_rep {P : Program} {w : World} (hok : HOk P w H s.heap) (n : Nat) (A : Around) {v w : V} {d e : D} {u z : Value} (hd : d.dep ≤ n) (rd : Rep H v d) (re : Rep H w e) (ru : RelV v u) (rz : RelV w z) (pd : d.pure = true) (pe : e.pure = true) (hu : A.units + n < cLine) :
    SeqAt.RcAt A s u z (d.eqv e) ∧ SeqAt.RcNeAt A s u z (!(d.eqv e)) := by
  have ihn : ∀ {xs ys : List D}, deps xs + 1 ≤ n → pures xs = true → pures ys = true → ∀ (j : Nat) x y v w u z, xs[j]? = some x → ys[j]? = some y → Rep H v x → Rep H w y → RelV v u → RelV w z → SeqAt.EqAt A.in1 s u z (x.eqv y) :=
    fun {xs ys} hx px py j x y v w u z e1 e2 r1 r2 q1 q2 => eqAt_n hok (n - 1) A.in1 (Nat.le_trans (dep_get e1) (by omega)) r1 r2 q1 q2 (pure_get px e1) (pure_get py e2) (by rw [in1_units]; omega)
  cases rd with
  | bl _ => simp [D.pure] at pd
  | emp _ => simp [D.pure] at pd
  | non =>
    cases ru
    cases re with
    | bl _ => simp [D.pure] at pe
    | emp _ => simp [D.pure] at pe
    | non => cases rz; exact ⟨SeqAt.RcAt.none_none, SeqAt.RcNeAt.none_none⟩
    | int j => obtain ⟨t, rfl⟩ := rz; exact ⟨SeqAt.RcAt.none_int j t, SeqAt.RcNeAt.none_int j t⟩
    | str y => obtain ⟨t, rfl⟩ := rz; exact ⟨SeqAt.RcAt.none_str y t, SeqAt.RcNeAt.none_str y t⟩
    | tup ea _ => cases rz; obtain ⟨its, _, ht⟩ := tupAt hok ea; exact ⟨SeqAt.RcAt.none_tuple ht (by omega), SeqAt.RcNeAt.none_tuple ht (by omega)⟩
    | lst ea _ => cases rz; obtain ⟨its, _, ht⟩ := lstAt hok ea; exact ⟨SeqAt.RcAt.none_list ht (by omega), SeqAt.RcNeAt.none_list ht (by omega)⟩
  | int i =>
    obtain ⟨t, rfl⟩ := ru
    cases re with
    | bl _ => simp [D.pure] at pe
    | emp _ => simp [D.pure] at pe
    | non => cases rz; exact ⟨SeqAt.RcAt.int_none i t, SeqAt.RcNeAt.int_none i t⟩
    | int j => obtain ⟨t', rfl⟩ := rz; exact ⟨SeqAt.RcAt.int_int i t j t', SeqAt.RcNeAt.int_int i t j t'⟩
    | str y => obtain ⟨t', rfl⟩ := rz; exact ⟨SeqAt.RcAt.int_str i t y t', SeqAt.RcNeAt.int_str i t y t'⟩
    | tup ea _ => cases rz; obtain ⟨its, _, ht⟩ := tupAt hok ea; exact ⟨SeqAt.RcAt.int_tuple i t ht (by omega), SeqAt.RcNeAt.int_tuple i t ht (by omega)⟩
    | lst ea _ => cases rz; obtain ⟨its, _, ht⟩ := lstAt hok ea; exact ⟨SeqAt.RcAt.int_list i t ht (by omega), SeqAt.RcNeAt.int_list i t ht (by omega)⟩
  | str x =>
    obtain ⟨t, rfl⟩ := ru
    cases re with
    | bl _ => simp [D.pure] at pe
    | emp _ => simp [D.pure] at pe
    | non => cases rz; exact ⟨SeqAt.RcAt.str_none x t, SeqAt.RcNeAt.str_none x t⟩
    | int j => obtain ⟨t', rfl⟩ := rz; exact ⟨SeqAt.RcAt.str_int x t j t', SeqAt.RcNeAt.str_int x t j t'⟩
    | str y => obtain ⟨t', rfl⟩ := rz; exact ⟨SeqAt.RcAt.str_str x t y t', SeqAt.RcNeAt.str_str x t y t'⟩
    | tup ea _ => cases rz; obtain ⟨its, _, ht⟩ := tupAt hok ea; exact ⟨SeqAt.RcAt.str_tuple x t ht (by omega), SeqAt.RcNeAt.str_tuple x t ht (by omega)⟩
    | lst ea _ => cases rz; obtain ⟨its, _, ht⟩ := lstAt hok ea; exact ⟨SeqAt.RcAt.str_list x t ht (by omega), SeqAt.RcNeAt.str_list x t ht (by omega)⟩
  | @tup a vs xs ea rs =>
    cases ru
    obtain ⟨its, qi, hi⟩ := tupAt hok ea
    rw [D.dep] at hd
    rw [D.pure] at pd
    cases re with
    | bl _ => simp [D.pure] at pe
    | emp _ => simp [D.pure] at pe
    | non => cases rz; exact ⟨SeqAt.RcAt.tuple_none hi (by omega), SeqAt.RcNeAt.tuple_none hi (by omega)⟩
    | int j => obtain ⟨t', rfl⟩ := rz; exact ⟨SeqAt.RcAt.tuple_int j t' hi (by omega), SeqAt.RcNeAt.tuple_int j t' hi (by omega)⟩
    | str y => obtain ⟨t', rfl⟩ := rz; exact ⟨SeqAt.RcAt.tuple_str y t' hi (by omega), SeqAt.RcNeAt.tuple_str y t' hi (by omega)⟩
    | lst eb _ => cases rz; obtain ⟨its2, _, ht⟩ := lstAt hok eb; exact ⟨SeqAt.RcAt.tuple_list hi ht (by omega), SeqAt.RcNeAt.tuple_list hi ht (by omega)⟩
    | @tup b ws ys eb rs2 =>
      cases rz
      rw [D.pure] at pe
      obtain ⟨its2, qj, hj⟩ := tupAt hok eb
      have l1 := qi.length
      have l2 := qj.length
      have q := SeqAt.RcAt.tuples (A := A) hi hj (by omega) (e := ansAt xs ys) (items_ans rs rs2 qi qj (ihn hd pd pe))
      have q' := SeqAt.RcNeAt.tuples (A := A) hi hj (by omega) (e := ansAt xs ys) (items_ans rs rs2 qi qj (ihn hd pd pe))
      rw [List.size_toArray, List.size_toArray, ← l1, ← l2, rs.length, rs2.length, range_min_eqvs] at q q'
      rw [D.eqv]; exact ⟨q, q'⟩
  | @lst a vs xs ea rs =>
    cases ru
    obtain ⟨its, qi, hi⟩ := lstAt hok ea
    rw [D.dep] at hd
    rw [D.pure] at pd
    cases re with
    | bl _ => simp [D.pure] at pe
    | emp _ => simp [D.pure] at pe
    | non => cases rz; exact ⟨SeqAt.RcAt.list_none hi (by omega), SeqAt.RcNeAt.list_none hi (by omega)⟩
    | int j => obtain ⟨t', rfl⟩ := rz; exact ⟨SeqAt.RcAt.list_int j t' hi (by omega), SeqAt.RcNeAt.list_int j t' hi (by omega)⟩
    | str y => obtain ⟨t', rfl⟩ := rz; exact ⟨SeqAt.RcAt.list_str y t' hi (by omega), SeqAt.RcNeAt.list_str y t' hi (by omega)⟩
    | tup eb _ => cases rz; obtain ⟨its2, _, ht⟩ := tupAt hok eb; exact ⟨SeqAt.RcAt.list_tuple hi ht (by omega), SeqAt.RcNeAt.list_tuple hi ht (by omega)⟩
    | @lst b ws ys eb rs2 =>
      cases rz
      rw [D.pure] at pe
      obtain ⟨its2, qj, hj⟩ := lstAt hok eb
      have l1 := qi.length
      have l2 := qj.length
      have l3 := rs.length
      have l4 := rs2.length
      by_cases hl : xs.length = ys.length
      · have sz : its.toArray.size = its2.toArray.size := by rw [List.size_toArray, List.size_toArray]; omega
        have q := SeqAt.RcAt.lists (A := A) hi hj sz (by omega) (e := ansAt xs ys) (items_ans rs rs2 qi qj (ihn hd pd pe))
        have q' := SeqAt.RcNeAt.lists (A := A) hi hj sz (by omega) (e := ansAt xs ys) (items_ans rs rs2 qi qj (ihn hd pd pe))
        have e1 : its.toArray.size = xs.length := by rw [List.size_toArray]; omega
        rw [e1, range_all_eqvs (ansAt xs ys) xs ys hl fun j x y e1 e2 => by unfold ansAt; rw [e1, e2]] at q q'
        rw [D.eqv]; exact ⟨q, q'⟩
      · rw [D.eqv, eqvs_len xs ys hl]
        have sz : (its.toArray.size != its2.toArray.size) = true := by rw [List.size_toArray, List.size_toArray]; simp; omega
        exact ⟨SeqAt.RcAt.lists_lengths hi hj sz (by omega), SeqAt.RcNeAt.lists_lengths hi hj sz (by omega)⟩
def rEqD (n : Nat) : R2 := fun x y H Q => ∃ d e, Rep H x d ∧ Rep H y e ∧ d.pure = true ∧ e.pure = true ∧ d.dep ≤ n ∧ Q (.bl (d.eqv e)) H
def rNeD (n : Nat) : R2 := fun x y H Q => ∃ d e, Rep H x d ∧ Rep H y e ∧ d.pure = true ∧ e.pure = true ∧ d.dep ≤ n ∧ Q (.bl (!(d.eqv e))) H
theorem op_eqD {n : Nat} (hu : X.A.units + n < cLine) : OpR X (compareOp .Eq) (rEqD n) := by
  intro pins s σ H x y v u Q I rx ry h
  obtain ⟨d, e, rd, re, pd, pe, hd, q⟩ := h
  exact (rcAt_rep I.hok n X.A hd rd re rx ry pd pe hu).1 X.prog X.w X.xe _ ⟨.bl _, H, I, rfl, q⟩
theorem op_neD {n : Nat} (hu : X.A.units + n < cLine) : OpR X (compareOp .NotEq) (rNeD n) := by
  intro pins s σ H x y v u Q I rx ry h
  obtain ⟨d, e, rd, re, pd, pe, hd, q⟩ := h
  exact (rcAt_rep I.hok n X.A hd rd re rx ry pd pe hu).2 X.prog X.w X.xe _ ⟨.bl _, H, I, rfl, q⟩
end
end L3
namespace L3
open PySem PySem.Spec PyProof.Rows L2
section
variable {X : Cx}
def rAddG : R2 := fun x y H Q => match x, y with
  | .int i, .int j => Q (.int (i + j)) H
  | .str a, .str b => a.length + b.length ≤ sizeLine ∧ Q (.str (a ++ b)) H
  | .ref a, .ref b => ∃ xs zs, H a = some (.lst xs) ∧ H b = some (.lst zs) ∧ xs.length + zs.length ≤ sizeLine ∧ New H (.lst (xs ++ zs)) Q
  | _, _ => False
theorem op_addG : OpR X (binaryOp .Add) rAddG := by
  intro pins s σ H x y v u Q I rx ry q
  cases x <;> cases y <;> first
    | exact False.elim q
    | exact op_add pins s σ H _ _ v u Q I rx ry ⟨_, _, rfl, rfl, q⟩
    | exact op_add_str pins s σ H _ _ v u Q I rx ry ⟨_, _, rfl, rfl, q.1, q.2⟩
    | (obtain ⟨xs, zs, h1, h2, h3, h4⟩ := q; exact op_cat pins s σ H _ _ v u Q I rx ry ⟨_, _, xs, zs, rfl, rfl, h1, h2, h3, fun p n => h4.at n⟩)
def rEqG (n : Nat) : R2 := fun x y H Q => match x, y with
  | .int i, .int j => Q (.bl (decide (i = j))) H
  | .bl a, .bl b => Q (.bl (decide (a = b))) H
  | .str a, .str b => Q (.bl (decide (a = b))) H
  | x, y => rEqD n x y H Q
def rNeG (n : Nat) : R2 := fun x y H Q => match x, y with
  | .int i, .int j => Q (.bl (!decide (i = j))) H
  | .bl a, .bl b => Q (.bl (!decide (a = b))) H
  | .str a, .str b => Q (.bl (!decide (a = b))) H
  | x, y => rNeD n x y H Q
theorem decI {i j : Int} : decide (V.int i = V.int j) = decide (i = j) := by simp
theorem decB {i j : Bool} : decide (V.bl i = V.bl j) = decide (i = j) := by simp
theorem decS {i j : Str} : decide (V.str i = V.str j) = decide (i = j) := by simp
theorem op_eqG {n : Nat} (hu : X.A.units + n < cLine) : OpR X (compareOp .Eq) (rEqG n) := by
  intro pins s σ H x y v u Q I rx ry q
  cases x <;> cases y <;> first
    | exact op_eqD hu pins s σ H _ _ v u Q I rx ry q
    | (refine op_eq pins s σ H _ _ v u Q I rx ry ⟨rfl, ?_⟩; rw [decI]; exact q)
    | (refine op_eq pins s σ H _ _ v u Q I rx ry ⟨rfl, ?_⟩; rw [decB]; exact q)
    | (refine op_eq pins s σ H _ _ v u Q I rx ry ⟨rfl, ?_⟩; rw [decS]; exact q)
theorem op_neG {n : Nat} (hu : X.A.units + n < cLine) : OpR X (compareOp .NotEq) (rNeG n) := by
  intro pins s σ H x y v u Q I rx ry q
  cases x <;> cases y <;> first
    | exact op_neD hu pins s σ H _ _ v u Q I rx ry q
    | (refine op_ne pins s σ H _ _ v u Q I rx ry ⟨rfl, ?_⟩; rw [decI]; exact q)
    | (refine op_ne pins s σ H _ _ v u Q I rx ry ⟨rfl, ?_⟩; rw [decB]; exact q)
    | (refine op_ne pins s σ H _ _ v u Q I rx ry ⟨rfl, ?_⟩; rw [decS]; exact q)
def rIxG (K : PySem.W.Frag) : R2 := fun x y H Q => ∃ p xs i v, x = .ref p ∧ y = .int i ∧ (SqL K H p xs ∨ SqT K H p xs) ∧ atI xs i = some v ∧ Q v H
theorem ix_G : IxR X (rIxG X.K) := by
  intro value slice pins s σ H x y v u Q I rx ry q hs
  obtain ⟨p, xs, i, w, h1, h2, h3 | h3, h4, h5⟩ := q
  · exact ix_list value slice pins s σ H x y v u Q I rx ry ⟨p, xs, i, w, h1, h2, h3, h4, h5⟩ hs
  · exact ix_tup value slice pins s σ H x y v u Q I rx ry ⟨p, xs, i, w, h1, h2, h3, h4, h5⟩ hs
def iSeq (K : PySem.W.Frag) (tl : TE) : TI := fun σ H R => tl σ H fun x H1 => ∃ a, x = .ref a ∧ (((∃ xs, SqL K H1 a xs) ∧ R (Itl K a) H1) ∨ ((∃ xs, SqT K H1 a xs) ∧ R (Itt K a) H1))
def tAndG (K : PySem.W.Frag) (ta tb : TE) : TE := fun σ H Q => ta σ H fun x H1 => ∃ k, TruV K x H1 k ∧ if k = true then tb σ H1 Q else Q x H1
variable {a b : Expr} {rest : List Expr} {ta tb : TE} {pos : Pos}
theorem pe_andG (ha : PE X a ta) (hb : PE X (.BoolOp .And (b :: rest) pos) tb) : PE X (.BoolOp .And (a :: b :: rest) pos) (tAndG X.K ta tb) := by
  intro pins s σ H Q I h
  refine BoolOp_and (thn (ha pins s σ H _ I h) fun v s1 ⟨x, H1, I1, r1, k, tv, q1⟩ => ?_)
  refine thn (tru_ok pins s1 σ H1 x v (fun c H2 => H2 = H1 ∧ c = k) I1 r1 ⟨k, tv, rfl, rfl⟩) fun c s2 ⟨H2, I2, e1, e2⟩ => ?_
  subst e1 e2
  cases c with
  | true => rw [if_pos rfl] at q1; exact hb pins s2 σ H2 Q I2 q1
  | false => rw [if_neg Bool.false_ne_true] at q1; exact ⟨x, H2, I2, r1, q1⟩
end
section
variable {X : Cx} {tg : Expr}
theorem pi_seq {l : Expr} {tl : TE} (hl : PE X l tl) : PI X tg l (iSeq X.K tl) := by
  intro pins s σ H R I h
  refine thn (hl pins s σ H _ I h) fun v s1 ⟨x, H1, I1, r1, a, ex, q⟩ => ?_
  subst ex
  cases r1
  rcases q with ⟨⟨xs, hx⟩, q⟩ | ⟨⟨xs, hx⟩, q⟩
  · obtain ⟨its, r, p, hz⟩ := I1.list hx
    refine wpAny_pyIter_list p.isList ?_
    refine ⟨s1.heap.objs.size, [s1.heap.objs.size], _, _, H1, rfl, I1.kept (t' := s1.toks) fun b o e => Heap.get?_push_of_some _ e, turn_list a _, ⟨_, Heap.get?_push_size _ rfl, rfl, rfl⟩, fun b hb => ?_, q⟩
    have e : b = s1.heap.objs.size := by simpa using hb
    subst e
    exact I1.fpOk (Nat.le_refl _) I1.fresh
  · obtain ⟨its, r, p, hz⟩ := I1.tuple hx
    refine wpAny_pyIter_tuple (IsTup.isT p) ?_
    refine ⟨s1.heap.objs.size, [s1.heap.objs.size], _, _, H1, rfl, I1.kept (t' := s1.toks) fun b o e => Heap.get?_push_of_some _ e, turn_tuple a _, ⟨_, Heap.get?_push_size _ rfl, rfl, rfl⟩, fun b hb => ?_, q⟩
    have e : b = s1.heap.objs.size := by simpa using hb
    subst e
    exact I1.fpOk (Nat.le_refl _) I1.fresh
def Cal (P : Program) (w : World) (K : PySem.W.Frag) (mg : Str → Option Value) (base : Heap) (CX : CXT) (k : Nat) (x : Str) (sp : Sp) : Prop :=
  ∃ f fd ps, FnOk P w K mg base CX k f fd ps sp ∧ mg x = some (.ref f) ∧ PySem.W.keepIn K (.ref f) = true ∧ Binds K fd ps []
def tCallF (sp : Sp) (E : XK) (t : TA) : TE := fun σ H Q => t σ H fun vs H1 => sp vs H1 Q E
theorem pe_callF {CX : CXT} {k : Nat} {x : Str} {sp : Sp} {E : XK} {e : Expr} {es : List Expr} {t : TA} {p pos : Pos} (C : Cal X.prog X.w X.K X.mg X.base CX k x sp) (hr : Room k X.A) (hx : Passes CX X E) (hg : Gl X x)
    (ha : PA X (e :: es) t) (hdb : (x == ("__debug__" : Str)) = false := by decide) (he : starEach (e :: es) X.env = (false, eval e X.env) :: starEach es X.env := by rfl) (hpl : (backTo pos (starEach es X.env)).any (·.1) = false := by rfl) :
    PE X (.Call (.Name x p) (e :: es) [] pos) (tCallF sp E t) := by
  obtain ⟨f, fd, ps, F, hm, hk, hb⟩ := C
  have q := pe_call (dvs := []) (ds := []) F hr hg hm hk hb .nil hx ha hdb he hpl (p := p) (pos := pos)
  intro pins s σ H Q I h
  refine q pins s σ H Q I ?_
  show t σ H fun vs H1 => sp (vs ++ []) H1 Q E
  simp only [List.append_nil]
  exact h
theorem Cal.mono {P : Program} {w : World} {K : PySem.W.Frag} {mg : Str → Option Value} {base : Heap} {CX : CXT} {j k : Nat} {x : Str} {sp : Sp} (C : Cal P w K mg base CX j x sp) (h : j ≤ k) : Cal P w K mg base CX k x sp := by
  obtain ⟨f, fd, ps, F, r⟩ := C
  exact ⟨f, fd, ps, F.mono h, r⟩
end
structure Fd (K : PySem.W.Frag) (mg : Str → Option Value) (x : Str) (st : Stmt) (f : Addr) : Prop where
  ex : ∃ fd, Fun K x x st f fd
  at_ : mg x = some (.ref f)
theorem fd_mk {K : PySem.W.Frag} {h : Heap} {mg : Str → Option Value} {x : Str} {st : Stmt} {f : Addr} {oc : Value} {od an : Option Addr} {osl : Array (Option Value)} {kV doc pm cdv ct : Value} (X : K.In h) (G : h.Ns mainGlobals mg)
    (a : PySem.W.nsIn K mainGlobals x = some (some (.ref f))) (l : K.lookup f = some ⟨oc, od, .func (PySem.W.fnOf x x (defArgs st) (defBody st) (defScope st) .none kV doc pm an cdv ct), osl⟩)
    (c : PySem.W.codeIn K cdv x = true) (k : PySem.W.keepIn K (.ref f) = true) : Fd K mg x st f := ⟨⟨_, fun_mk l c k⟩, PySem.W.mg_of X G a⟩
end L3
namespace L3
open PySem PySem.Spec PyProof.Rows L2
theorem hu_n {A : Around} {k : Nat} (hr : Room k A) : A.units + 150 < cLine := by have := hr.un; omega
theorem atI_mem {α : Type} {xs : List α} {i : Int} (h0 : 0 ≤ i) (h1 : i < xs.length) : ∃ v, atI xs i = some v ∧ v ∈ xs := by
  have hlt : i.toNat < xs.length := by omega
  refine ⟨xs[i.toNat], ?_, List.getElem_mem hlt⟩
  have e : ((i.toNat : Nat) : Int) = i := by omega
  have := atI_nat (xs := xs) (j := i.toNat) (v := xs[i.toNat]) (List.getElem?_eq_getElem hlt)
  rw [e] at this
  exact this
theorem atI_ints {ns : List Int} {i : Int} (h0 : 0 ≤ i) (h1 : i < ns.length) : ∃ n, atI (ns.map V.int) i = some (.int n) ∧ n ∈ ns := by
  obtain ⟨v, e, m⟩ := atI_mem (xs := ns.map V.int) h0 (by rw [List.length_map]; exact h1)
  obtain ⟨n, hn, rfl⟩ := List.mem_map.mp m
  exact ⟨n, e, hn⟩
theorem sizeBig {n : Nat} (h : n ≤ 100000) : n < sizeLine := Nat.lt_of_le_of_lt h (by decide)
theorem sizeBig' {n : Nat} (h : n ≤ 100000) : n ≤ sizeLine := Nat.le_of_lt (sizeBig h)
section
variable {g : TG} {tt : TT} {te : TE} {acc : Addr} {σ0 : St} {H0 : Hp} {Q : Hp → Prop}
@[irreducible] def CPost (Pv : Nat → List V → St → Hp → Prop) (acc : Addr) (n i : Nat) (σ2 : St) (y : V) (H4 : Hp) : Prop :=
  ∃ ys, H4 acc = some (.lst ys) ∧ ys.length < sizeLine ∧ ∃ m', m' < n - i ∧ m' = n - (i + 1) ∧ i + 1 ≤ n ∧ ∃ zs, Pv (i + 1) zs σ2 (upd H4 acc (.lst (ys ++ [y])))
@[irreducible] def CSkip (Pv : Nat → List V → St → Hp → Prop) (n i : Nat) (σ2 : St) (H3 : Hp) : Prop := ∃ m', m' < n - i ∧ m' = n - (i + 1) ∧ i + 1 ≤ n ∧ ∃ zs, Pv (i + 1) zs σ2 H3
theorem cpost {Pv : Nat → List V → St → Hp → Prop} {n i : Nat} {σ2 : St} {y : V} {H4 : Hp} {ys : List V} (h1 : H4 acc = some (.lst ys)) (h2 : ys.length < sizeLine) (h3 : i < n) (h4 : Pv (i + 1) (ys ++ [y]) σ2 (upd H4 acc (.lst (ys ++ [y])))) : CPost Pv acc n i σ2 y H4 :=
  by unfold CPost; exact ⟨ys, h1, h2, n - (i + 1), by omega, rfl, h3, _, h4⟩
theorem comp_list {K : PySem.W.Frag} {a : Addr} {xs : List V} (Pv : Nat → List V → St → Hp → Prop) (h0 : Pv 0 [] σ0 H0) (hl : ∀ i ys σ H, Pv i ys σ H → SqL K H a xs)
    (hs : ∀ i ys x σ H, xs[i]? = some x → i < xs.length → Pv i ys σ H → g x σ H fun σ2 H2 => tt σ2 H2 fun b H3 => if b = true then te σ2 H3 (CPost Pv acc xs.length i σ2) else CSkip Pv xs.length i σ2 H3)
    (hd : ∀ ys σ H, Pv xs.length ys σ H → Q H) : CompW (Itl K a) g tt te acc σ0 H0 Q := by
  refine ⟨fun i m σ H => m = xs.length - i ∧ i ≤ xs.length ∧ ∃ ys, Pv i ys σ H, ⟨xs.length, by simp, Nat.zero_le _, [], h0⟩, ?_⟩
  rintro i m σ H ⟨rfl, hi, ys, p⟩
  have q := hl i ys σ H p
  by_cases hlt : i < xs.length
  · refine .inr ⟨⟨xs, xs[i], q, by simp [hlt]⟩, fun x H1 y => ?_⟩
    obtain ⟨e, y⟩ := y
    subst e
    have z := hs i ys x σ _ (y xs q) hlt p
    unfold CPost CSkip at z
    exact z
  · have e : i = xs.length := by omega
    subst e
    exact .inl ⟨⟨xs, q, Nat.le_refl _⟩, hd ys σ H p⟩
theorem comp_range {lo : Int} {n : Nat} (Pv : Nat → List V → St → Hp → Prop) (h0 : Pv 0 [] σ0 H0)
    (hs : ∀ i ys σ H, i < n → Pv i ys σ H → g (.int (lo + i)) σ H fun σ2 H2 => tt σ2 H2 fun b H3 => if b = true then te σ2 H3 (CPost Pv acc n i σ2) else CSkip Pv n i σ2 H3)
    (hd : ∀ ys σ H, Pv n ys σ H → Q H) : CompW (Itr lo n) g tt te acc σ0 H0 Q := by
  refine ⟨fun i m σ H => m = n - i ∧ i ≤ n ∧ ∃ ys, Pv i ys σ H, ⟨n, by simp, Nat.zero_le _, [], h0⟩, ?_⟩
  rintro i m σ H ⟨rfl, hi, ys, p⟩
  by_cases hlt : i < n
  · refine .inr ⟨hlt, fun x H1 y => ?_⟩
    obtain ⟨e, y⟩ := y
    subst e y
    have z := hs i ys σ _ hlt p
    unfold CPost CSkip at z
    exact z
  · have e : i = n := by omega
    subst e
    exact .inl ⟨Nat.le_refl _, hd ys σ H p⟩
end
end L3
namespace L3
open PySem PySem.Spec PyProof.Rows L2
end L3
namespace L3
open PySem PySem.Spec PyProof.Rows L2
theorem cmL {i j : Int} (h : -(2 ^ 64) < i ∧ i < 2 ^ 64) : CMul i j := .inl h
theorem cmR {i j : Int} (h : -(2 ^ 64) < j ∧ j < 2 ^ 64) : CMul i j := .inr h
theorem rm_trans {p : Addr} {H H1 H2 : Hp} (s1 : Same (rm p H) H1) (s2 : Same (rm p H1) H2) : Same (rm p H) H2 := (rm_mono s1).trans s2
theorem rm_look {p b : Addr} {H H' : Hp} {o : HO} (s : Same (rm p H) H') (h : H b = some o) (hb : b ≠ p) : H' b = some o := s b o (by rw [rm_ne hb]; exact h)
theorem rm_free {p l : Addr} {H H' : Hp} {o : HO} (s : Same (rm p H) H') (h : H' l = none) (hp : H' p = some o) : H l = none := by
  have e := s.free h
  rwa [rm_ne (fun z => by rw [z, hp] at h; cases h)] at e
theorem Fd.none {P : Program} {w : World} {K : PySem.W.Frag} {mg : Str → Option Value} {base : Heap} {x : Str} {st : Stmt} {f : Addr} {ps : List Str} {sp : Sp} (F : Fd K mg x st f)
    (hb : ∀ (kV doc pm : Value) (an : Option Addr) (cdv ct : Value) (us : List Value), us.length = ps.length → bindArgs (PySem.W.fnOf x x (defArgs st) (defBody st) (defScope st) .none kV doc pm an cdv ct) ⟨us, []⟩ = pure (ps.zip us))
    (h : ∀ vs H Q E, ¬ sp vs H Q E) : Cal P w K mg base CX0 0 x sp := by
  obtain ⟨⟨fd, F1⟩, F2⟩ := F
  exact ⟨f, fd, ps, ⟨fun vs H Q E q => (h vs H Q E q).elim, fun A outer s H args us vs Q E _ _ _ _ q => (h vs H Q E q).elim⟩, F2, F1.kp, F1.binds hb⟩
end L3
namespace L3
open PySem
theorem bt_abs : bootBuiltins "abs" = some (.builtin "abs") := by decide +kernel
theorem bt_len : bootBuiltins "len" = some (.builtin "len") := by decide +kernel
theorem bt_isinstance : bootBuiltins "isinstance" = some (.builtin "isinstance") := by decide +kernel
theorem bt_sorted : bootBuiltins "sorted" = some (.builtin "sorted") := by decide +kernel
theorem bt_int : bootBuiltins "int" = some (.type "int") := by decide +kernel
theorem bt_bool : bootBuiltins "bool" = some (.type "bool") := by decide +kernel
theorem bt_tuple : bootBuiltins "tuple" = some (.type "tuple") := by decide +kernel
theorem bt_list : bootBuiltins "list" = some (.type "list") := by decide +kernel
theorem bt_set : bootBuiltins "set" = some (.type "set") := by decide +kernel
end L3
namespace L3
open PySem PySem.Spec PyProof.Rows L2
section
variable {X : Cx} {a b e o l : Expr} {es rest : List Expr} {ta tb te to tl : TE} {t : TA} {pos : Pos}
theorem kIx (K : PySem.W.Frag) (hK : X.K = K := by rfl) : IxR X (rIxG K) := by subst hK; exact ix_G
theorem kAnd (K : PySem.W.Frag) (ha : PE X a ta) (hb : PE X (.BoolOp .And (b :: rest) pos) tb) (hK : X.K = K := by rfl) : PE X (.BoolOp .And (a :: b :: rest) pos) (tAndG K ta tb) := by subst hK; exact pe_andG ha hb
def rLen (K : PySem.W.Frag) : List V → Hp → VK → Prop := fun xs H Q => ∃ p ys, xs = [.ref p] ∧ (SqL K H p ys ∨ SqT K H p ys) ∧ Q (.int ys.length) H
theorem kLen (K : PySem.W.Frag) (hK : X.K = K := by rfl) : CallR X (.builtin "len") (rLen K) := by subst hK; exact call_len_seq
def tTru (K : PySem.W.Frag) (ta : TE) : TT := fun σ H Q => ta σ H fun x H' => ∃ k, TruV K x H' k ∧ Q k H'
theorem kTru (K : PySem.W.Frag) (ha : PE X a ta) (he : ∀ whole, isTrue a X.env whole = (do let v ← whole; standAt a.pos; holding [v] (truthy v))) (hK : X.K = K := by rfl) : PT X a (tTru K ta) := by subst hK; exact pt_truth ha he
def rIsi (K : PySem.W.Frag) : List V → Hp → VK → Prop := fun xs H Q => ∃ x T t b, xs = [x, .ty T] ∧ TyOf K H x t ∧ PySem.W.kitOne K t (.type T) = some b ∧ Q (.bl b) H
theorem kIsi (K : PySem.W.Frag) (hK : X.K = K := by rfl) : CallR X (.builtin "isinstance") (rIsi K) := by subst hK; exact call_isi
theorem kListC (K : PySem.W.Frag) (hK : X.K = K := by rfl) : CallR X (.type "list") (rListN K) := by subst hK; exact call_listN
theorem kSl (K : PySem.W.Frag) (hK : X.K = K := by rfl) : SlR X (rSlN K) := by subst hK; exact sl_listN
theorem kSeq {tg : Expr} (K : PySem.W.Frag) (hl : PE X l tl) (hK : X.K = K := by rfl) : PI X tg l (iSeq K tl) := by subst hK; exact pi_seq hl
theorem kRev {k : Expr} {tk : TO} {p2 : Pos} (K : PySem.W.Frag) (he : PE X e te) (hk : PO X (some k) tk) (hK : X.K = K := by rfl) : PE X (.Subscript e (.Slice none none (some k) p2) pos) (tRev K te tk) := by subst hK; exact pe_rev he hk
def notStar : Expr → Bool
  | .Starred _ _ => false
  | _ => true
theorem star_cons {e : Expr} {es : List Expr} {env : Env} (h : notStar e = true) : starEach (e :: es) env = (false, eval e env) :: starEach es env := by
  cases e <;> first
    | rfl
    | cases h
theorem star_nil {env : Env} : starEach [] env = [] := rfl
theorem star_any {pos : Pos} {env : Env} : ∀ es : List Expr, es.all notStar = true → (backTo pos (starEach es env)).any (·.1) = false
  | [], _ => by rw [star_nil]; rfl
  | e :: r, h => by
    rw [List.all_cons, Bool.and_eq_true] at h
    rw [star_cons h.1]
    have := star_any (pos := pos) (env := env) r h.2
    unfold backTo at this ⊢
    rw [List.map_cons, List.any_cons, this]; rfl
theorem star_all {pos : Pos} {env : Env} : ∀ es : List Expr, es.all notStar = true → (backTo pos (starEach es env)).all (fun x => !x.1) = true
  | [], _ => by rw [star_nil]; rfl
  | e :: r, h => by
    rw [List.all_cons, Bool.and_eq_true] at h
    rw [star_cons h.1]
    have := star_all (pos := pos) (env := env) r h.2
    unfold backTo at this ⊢
    rw [List.map_cons, List.all_cons, this]; rfl
theorem all_head {e : Expr} {es : List Expr} (h : (e :: es).all notStar = true) : notStar e = true ∧ es.all notStar = true := by rw [List.all_cons, Bool.and_eq_true] at h; exact h
theorem paC (ha : PE X e te) (hr : PA X es t) (h : notStar e = true := by rfl) : PA X (e :: es) (tCons te t) := pa_cons ha hr (star_cons h)
theorem cF {CX : CXT} {k : Nat} {x : Str} {sp : Sp} {E : XK} {p pos : Pos} (C : Cal X.prog X.w X.K X.mg X.base CX k x sp) (hr : Room k X.A) (hx : Passes CX X E) (hg : Gl X x)
    (ha : PA X (e :: es) t) (hdb : (x == ("__debug__" : Str)) = false := by decide) (h : (e :: es).all notStar = true := by rfl) : PE X (.Call (.Name x p) (e :: es) [] pos) (tCallF sp E t) :=
  pe_callF C hr hx hg ha hdb (star_cons (all_head h).1) (star_any es (all_head h).2)
theorem cB {id : String} {r : List V → Hp → VK → Prop} {x : Str} {p pos : Pos} (hc : CallR X (.builtin id) r) (hg : Gl X x) (hm : X.mg x = none) (hv : bootBuiltins x = some (.builtin id)) (ha : PA X (e :: es) t) (hn : x ≠ "__name__" := by decide) (hdb : (x == ("__debug__" : Str)) = false := by decide)
    (h : (e :: es).all notStar = true := by rfl) : PE X (.Call (.Name x p) (e :: es) [] pos) (tCB r t) := pe_callB hc hg hm hv ha hn hdb (star_cons (all_head h).1) (star_any es (all_head h).2)
theorem cTy {T : String} {r : List V → Hp → VK → Prop} {x : Str} {p pos : Pos} (hc : CallR X (.type T) r) (hg : Gl X x) (hm : X.mg x = none) (hv : bootBuiltins x = some (.type T)) (ha : PA X (e :: es) t) (hn : x ≠ "__name__" := by decide) (hdb : (x == ("__debug__" : Str)) = false := by decide)
    (h : (e :: es).all notStar = true := by rfl) : PE X (.Call (.Name x p) (e :: es) [] pos) (tCB r t) := pe_callTy hc hg hm hv ha hn hdb (star_cons (all_head h).1) (star_any es (all_head h).2)
theorem cRange1 {ta : TA} {p pos : Pos} (hg : Gl X "range") (hm : X.mg "range" = none) (ha : PA X [a] ta) (h : notStar a = true := by rfl) : PE X (.Call (.Name "range" p) [a] [] pos) (tRng1 ta) := pe_range1 hg hm ha (by rw [star_cons h, star_nil])
theorem iRange1 {tg : Expr} {ta : TA} {p pos : Pos} (hg : Gl X "range") (hm : X.mg "range" = none) (ha : PA X [a] ta) (h : notStar a = true := by rfl) : PI X tg (.Call (.Name "range" p) [a] [] pos) (iRng1 ta) := pi_range1 hg hm ha (by rw [star_cons h, star_nil])
theorem kBm {name : Str} {apos cpos : Pos} {T id : String} {r : V → List V → Hp → VK → Prop} (K : PySem.W.Frag) (pa : PlainAttrs T) (slot : Slot T name id) (hty : typeOf (.builtin id) = pure (.type "method_descriptor")) (hm : MtR X id r) (ho : PE X o to) (ha : PA X (e :: es) t)
    (hbase : attributeBase o name X.env (eval o X.env) = eval o X.env := by rfl) (h : (e :: es).all notStar = true := by rfl) (hl : decide ((e :: es).length < 30) = true := by rfl)
    (hline : (apos.endLine == cpos.line) = true := by rfl) (hK : X.K = K := by rfl) :
    PE X (.Call (.Attribute o name apos) (e :: es) [] cpos) (tBM K T r to t) := by
  subst hK
  refine pe_bm pa slot hty hm ho ha hbase ?_ hline (star_cons (all_head h).1) (star_any es (all_head h).2)
  rw [star_all (e :: es) h, Bool.true_and, Bool.and_eq_true]
  exact ⟨rfl, hl⟩
theorem kIn (K : PySem.W.Frag) (hK : X.K = K := by rfl) : OpR X (compareOp .In) (rIn K false) := by subst hK; exact op_in_seq
end
end L3
namespace L3
open PySem PySem.Spec PyProof.Rows L2
@[irreducible] def QE (X : Cx) (e : Expr) (t : TE) : Prop := PE X e t
@[irreducible] def QT (X : Cx) (e : Expr) (t : TT) : Prop := PT X e t
@[irreducible] def QW (X : Cx) (e : Expr) (t : TT) : Prop := PW X e t
@[irreducible] def QA (X : Cx) (es : List Expr) (t : TA) : Prop := PA X es t
@[irreducible] def QS (X : Cx) (s : Stmt) (t : TS) : Prop := PS X s t
@[irreducible] def QSs (X : Cx) (s : List Stmt) (t : TS) : Prop := PSs X s t
@[irreducible] def QG (X : Cx) (e : Expr) (t : TG) : Prop := PG X e t
@[irreducible] def QGs (X : Cx) (es : List Expr) (t : TGs) : Prop := PGs X es t
@[irreducible] def QI (X : Cx) (tg e : Expr) (t : TI) : Prop := PI X tg e t
@[irreducible] def QO (X : Cx) (e : Option Expr) (t : TO) : Prop := PO X e t
@[irreducible] def QTs (X : Cx) (es : List Expr) (t : TT) : Prop := PTs X es t
@[irreducible] def ROp (X : Cx) (f : Value → Value → Sem Value) (r : R2) : Prop := OpR X f r
@[irreducible] def RUn (X : Cx) (f : Value → Sem Value) (r : V → Hp → VK → Prop) : Prop := UnR X f r
@[irreducible] def RCall (X : Cx) (f : Value) (r : List V → Hp → VK → Prop) : Prop := CallR X f r
@[irreducible] def RIx (X : Cx) (r : R2) : Prop := IxR X r
@[irreducible] def RMt (X : Cx) (id : String) (r : V → List V → Hp → VK → Prop) : Prop := MtR X id r
@[irreducible] def RSl (X : Cx) (r : V → Option Int → Option Int → Hp → VK → Prop) : Prop := SlR X r
@[irreducible] def RSet (X : Cx) (r : TSet) : Prop := PSet X r
@[irreducible] def RIp (X : Cx) (op : Operator) (r : TIp) : Prop := PIp X op r
section
variable {X : Cx}
theorem QE.un {e : Expr} {t : TE} (h : QE X e t) : PE X e t := by unfold QE at h; exact h
theorem QE.mk {e : Expr} {t : TE} (h : PE X e t) : QE X e t := by unfold QE; exact h
theorem QT.un {e : Expr} {t : TT} (h : QT X e t) : PT X e t := by unfold QT at h; exact h
theorem QT.mk {e : Expr} {t : TT} (h : PT X e t) : QT X e t := by unfold QT; exact h
theorem QW.un {e : Expr} {t : TT} (h : QW X e t) : PW X e t := by unfold QW at h; exact h
theorem QW.mk {e : Expr} {t : TT} (h : PW X e t) : QW X e t := by unfold QW; exact h
theorem QA.un {es : List Expr} {t : TA} (h : QA X es t) : PA X es t := by unfold QA at h; exact h
theorem QA.mk {es : List Expr} {t : TA} (h : PA X es t) : QA X es t := by unfold QA; exact h
theorem QS.un {s : Stmt} {t : TS} (h : QS X s t) : PS X s t := by unfold QS at h; exact h
theorem QS.mk {s : Stmt} {t : TS} (h : PS X s t) : QS X s t := by unfold QS; exact h
theorem QSs.un {s : List Stmt} {t : TS} (h : QSs X s t) : PSs X s t := by unfold QSs at h; exact h
theorem QSs.mk {s : List Stmt} {t : TS} (h : PSs X s t) : QSs X s t := by unfold QSs; exact h
theorem QG.un {e : Expr} {t : TG} (h : QG X e t) : PG X e t := by unfold QG at h; exact h
theorem QG.mk {e : Expr} {t : TG} (h : PG X e t) : QG X e t := by unfold QG; exact h
theorem QGs.un {es : List Expr} {t : TGs} (h : QGs X es t) : PGs X es t := by unfold QGs at h; exact h
theorem QGs.mk {es : List Expr} {t : TGs} (h : PGs X es t) : QGs X es t := by unfold QGs; exact h
theorem QI.un {tg e : Expr} {t : TI} (h : QI X tg e t) : PI X tg e t := by unfold QI at h; exact h
theorem QI.mk {tg e : Expr} {t : TI} (h : PI X tg e t) : QI X tg e t := by unfold QI; exact h
theorem QO.un {e : Option Expr} {t : TO} (h : QO X e t) : PO X e t := by unfold QO at h; exact h
theorem QO.mk {e : Option Expr} {t : TO} (h : PO X e t) : QO X e t := by unfold QO; exact h
theorem QTs.un {es : List Expr} {t : TT} (h : QTs X es t) : PTs X es t := by unfold QTs at h; exact h
theorem QTs.mk {es : List Expr} {t : TT} (h : PTs X es t) : QTs X es t := by unfold QTs; exact h
theorem ROp.un {f : Value → Value → Sem Value} {r : R2} (h : ROp X f r) : OpR X f r := by unfold ROp at h; exact h
theorem ROp.mk {f : Value → Value → Sem Value} {r : R2} (h : OpR X f r) : ROp X f r := by unfold ROp; exact h
theorem RUn.un {f : Value → Sem Value} {r : V → Hp → VK → Prop} (h : RUn X f r) : UnR X f r := by unfold RUn at h; exact h
theorem RUn.mk {f : Value → Sem Value} {r : V → Hp → VK → Prop} (h : UnR X f r) : RUn X f r := by unfold RUn; exact h
theorem RCall.un {f : Value} {r : List V → Hp → VK → Prop} (h : RCall X f r) : CallR X f r := by unfold RCall at h; exact h
theorem RCall.mk {f : Value} {r : List V → Hp → VK → Prop} (h : CallR X f r) : RCall X f r := by unfold RCall; exact h
theorem RIx.un {r : R2} (h : RIx X r) : IxR X r := by unfold RIx at h; exact h
theorem RIx.mk {r : R2} (h : IxR X r) : RIx X r := by unfold RIx; exact h
theorem RMt.un {id : String} {r : V → List V → Hp → VK → Prop} (h : RMt X id r) : MtR X id r := by unfold RMt at h; exact h
theorem RMt.mk {id : String} {r : V → List V → Hp → VK → Prop} (h : MtR X id r) : RMt X id r := by unfold RMt; exact h
theorem RSl.un {r : V → Option Int → Option Int → Hp → VK → Prop} (h : RSl X r) : SlR X r := by unfold RSl at h; exact h
theorem RSl.mk {r : V → Option Int → Option Int → Hp → VK → Prop} (h : SlR X r) : RSl X r := by unfold RSl; exact h
theorem RSet.un {r : TSet} (h : RSet X r) : PSet X r := by unfold RSet at h; exact h
theorem RSet.mk {r : TSet} (h : PSet X r) : RSet X r := by unfold RSet; exact h
theorem RIp.un {op : Operator} {r : TIp} (h : RIp X op r) : PIp X op r := by unfold RIp at h; exact h
theorem RIp.mk {op : Operator} {r : TIp} (h : PIp X op r) : RIp X op r := by unfold RIp; exact h
end
section
variable {X : Cx} {a b c e o l : Expr} {es rest : List Expr} {ta tb tc te to tl : TE} {t : TA} {pos : Pos} {tA tB' : TT}
theorem rAdd : ROp X (binaryOp .Add) rAddG := .mk op_addG
theorem rSub : ROp X (binaryOp .Sub) (rI0 fun i j => .int (i - j)) := .mk op_sub
theorem rMul : ROp X (binaryOp .Mult) (rI CMul fun i j => .int (i * j)) := .mk op_mul
theorem rMod : ROp X (binaryOp .Mod) (rI (fun _ j => 0 < j) fun i j => .int (i % j)) := .mk op_mod
theorem rPow : ROp X (binaryOp .Pow) (rI CPow fun i j => .int (i ^ j.toNat)) := .mk op_pow
theorem rNeg : RUn X (unaryOp .USub) (rU fun i => .int (-i)) := .mk un_neg
theorem rLt : ROp X (compareOp .Lt) (rI0 fun i j => .bl (decide (i < j))) := .mk op_lt
theorem rGt : ROp X (compareOp .Gt) (rI0 fun i j => .bl (decide (j < i))) := .mk op_gt
theorem rGe : ROp X (compareOp .GtE) (rI0 fun i j => .bl (decide (j ≤ i))) := .mk op_ge
theorem rEqq {k : Nat} {A : Around} (hr : Room k A) (hA : X.A = A := by rfl) : ROp X (compareOp .Eq) (rEqG 150) := .mk (op_eqG (by rw [hA]; exact hu_n hr))
theorem rNeq {k : Nat} {A : Around} (hr : Room k A) (hA : X.A = A := by rfl) : ROp X (compareOp .NotEq) (rNeG 150) := .mk (op_neG (by rw [hA]; exact hu_n hr))
theorem rIs : ROp X (compareOp .Is) (fun x y H Q => y = .non ∧ Q (.bl (decide (x = .non))) H) := .mk op_isN
theorem rIsNot : ROp X (compareOp .IsNot) (fun x y H Q => y = .non ∧ Q (.bl (!decide (x = .non))) H) := .mk op_notN
theorem xIx (K : PySem.W.Frag) (hK : X.K = K := by rfl) : RIx X (rIxG K) := .mk (kIx K hK)
theorem xSl (K : PySem.W.Frag) (hK : X.K = K := by rfl) : RSl X (rSlN K) := .mk (kSl K hK)
theorem xSet : RSet X rSetL := .mk set_list
theorem fLen (K : PySem.W.Frag) (hK : X.K = K := by rfl) : RCall X (.builtin "len") (rLen K) := .mk (kLen K hK)
def rAbs : List V → Hp → VK → Prop := fun xs H Q => ∃ i, xs = [.int i] ∧ Q (.int (if i < 0 then -i else i)) H
theorem fAbs : RCall X (.builtin "abs") rAbs := .mk call_abs
theorem fIsi (K : PySem.W.Frag) (hK : X.K = K := by rfl) : RCall X (.builtin "isinstance") (rIsi K) := .mk (kIsi K hK)
theorem fList (K : PySem.W.Frag) (hK : X.K = K := by rfl) : RCall X (.type "list") (rListN K) := .mk (kListC K hK)
def rListRng : List V → Hp → VK → Prop := fun xs H Q => ∃ r lo hi, xs = [.ref r] ∧ H r = some (.rng lo hi) ∧ (-(2 ^ 62) ≤ lo ∧ lo < 2 ^ 62 ∧ -(2 ^ 62) ≤ hi ∧ hi < 2 ^ 62 ∧ hi - lo ≤ 2 ^ 24) ∧ New H (.lst (rangeVs lo hi)) Q
theorem fListRng (hc : X.calm = true := by rfl) : RCall X (.type "list") rListRng := .mk (call_list_rng hc)
theorem mAppend : RMt X "list.append" rAppend := .mk mt_append
theorem mInsert : RMt X "list.insert" rInsert := .mk mt_insert
theorem qv (i : Nat) {x : Str} {pos : Pos} (hN : X.N[i]? = some x := by rfl) (hv : Vis X.env.scope x := by first | exact Or.inl rfl | exact Or.inr (Or.inl rfl) | exact Or.inr (Or.inr rfl)) (hd : (x == ("__debug__" : Str)) = false := by decide)
    (hcd : (x == ("__classdict__" : Str)) = false := by decide) : QE X (.Name x pos) (tVar i) := .mk (pe_var hN hv hd hcd)
theorem qint {i j pos} : QE X (.Constant (.int i) j pos) (tC (.int i)) := .mk pe_int
theorem qbl {b j pos} : QE X (.Constant (.bool b) j pos) (tC (.bl b)) := .mk pe_bl
theorem qnon {j pos} : QE X (.Constant .none j pos) (tC .non) := .mk pe_non
theorem qstr {x j pos} : QE X (.Constant (.str x) j pos) (tC (.str x)) := .mk pe_str
theorem qty {x : Str} {T : String} {pos : Pos} (hg : Gl X x) (hm : X.mg x = none) (hv : bootBuiltins x = some (.type T)) (hn : x ≠ "__name__" := by decide) (hd : (x == ("__debug__" : Str)) = false := by decide) : QE X (.Name x pos) (tC (.ty T)) := .mk (pe_bltn hg hm hv rfl hn hd)
theorem qglobI {x : Str} {i : Int} {pos : Pos} (hg : Gl X x) (hm : ∃ tk, X.mg x = some (.int i tk)) (hd : (x == ("__debug__" : Str)) = false := by decide) : QE X (.Name x pos) (tC (.int i)) := by
  obtain ⟨tk, h⟩ := hm
  exact .mk (pe_glob hg h ⟨tk, rfl⟩ hd)
theorem qop {op : Operator} {r : R2} (ho : ROp X (binaryOp op) r) (ha : QE X a ta) (hb : QE X b tb) : QE X (.BinOp a op b pos) (tOp r ta tb) := .mk (pe_op ho.un ha.un hb.un)
theorem qun {op : UnaryOp} {r : V → Hp → VK → Prop} (ho : RUn X (unaryOp op) r) (ha : QE X a ta) : QE X (.UnaryOp op a pos) (tUn r ta) := .mk (pe_un ho.un ha.un)
theorem qcmp {op : CmpOp} {r : R2} (ho : ROp X (compareOp op) r) (ha : QE X a ta) (hb : QE X b tb) (hm : behindInMarks op b = false) : QE X (.Compare a [op] [b] pos) (tOp r ta tb) := .mk (pe_cmpR ho.un ha.un hb.un hm)
theorem qand (K : PySem.W.Frag) (ha : QE X a ta) (hb : QE X (.BoolOp .And (b :: rest) pos) tb) (hK : X.K = K := by rfl) : QE X (.BoolOp .And (a :: b :: rest) pos) (tAndG K ta tb) := .mk (kAnd K ha.un hb.un hK)
theorem qone {op} (h : QE X a te) : QE X (.BoolOp op [a] pos) te := .mk (pe_one h.un)
theorem qif (hc : QT X c tA) (ha : QE X a ta) (hb : QE X b tb) : QE X (.IfExp c a b pos) (tIf tA ta tb) := .mk (pe_ifExp hc.un ha.un hb.un)
theorem qnil : QA X [] tNil := .mk pa_nil
theorem qcons (ha : QE X e te) (hr : QA X es t) (h : notStar e = true := by rfl) : QA X (e :: es) (tCons te t) := .mk (paC ha.un hr.un h)
theorem qtup {x1} (h : QA X es t) : QE X (.Tuple es x1 pos) (tTupN t) := .mk (pe_tupN h.un)
theorem qlst (h : QA X es t) : QE X (.List es pos) (tLstN t) := .mk (pe_lstN h.un)
theorem qix {r : R2} (hr : RIx X r) (ha : QE X a ta) (hb : QE X b tb) (hs : PlainIx b) : QE X (.Subscript a b pos) (tOp r ta tb) := .mk (pe_ix hr.un ha.un hb.un hs)
theorem qslice {r : V → Option Int → Option Int → Hp → VK → Prop} {lo hi : Option Expr} {t1 t2 : TO} {p2 : Pos} (hr : RSl X r) (he : QE X e te) (hl : QO X lo t1) (hu : QO X hi t2) : QE X (.Subscript e (.Slice lo hi none p2) pos) (tSl r te t1 t2) := .mk (pe_slice hr.un he.un hl.un hu.un)
theorem qrev {k : Expr} {tk : TO} {p2 : Pos} (K : PySem.W.Frag) (he : QE X e te) (hk : QO X (some k) tk) (hK : X.K = K := by rfl) : QE X (.Subscript e (.Slice none none (some k) p2) pos) (tRev K te tk) := .mk (kRev K he.un hk.un hK)
theorem onone : QO X none tNoPart := .mk po_none
theorem osome (h : QE X e te) : QO X (some e) (tPart te) := .mk (po_some h.un)
theorem qF {CX : CXT} {k : Nat} {x : Str} {sp : Sp} {E : XK} {p pos : Pos} (C : Cal X.prog X.w X.K X.mg X.base CX k x sp) (hr : Room k X.A) (hx : Passes CX X E) (hg : Gl X x)
    (ha : QA X (e :: es) t) (hdb : (x == ("__debug__" : Str)) = false := by decide) (h : (e :: es).all notStar = true := by rfl) : QE X (.Call (.Name x p) (e :: es) [] pos) (tCallF sp E t) := .mk (cF C hr hx hg ha.un hdb h)
theorem qB {id : String} {r : List V → Hp → VK → Prop} {x : Str} {p pos : Pos} (hc : RCall X (.builtin id) r) (hg : Gl X x) (hm : X.mg x = none) (hv : bootBuiltins x = some (.builtin id)) (ha : QA X (e :: es) t) (hn : x ≠ "__name__" := by decide) (hdb : (x == ("__debug__" : Str)) = false := by decide)
    (h : (e :: es).all notStar = true := by rfl) : QE X (.Call (.Name x p) (e :: es) [] pos) (tCB r t) := .mk (cB hc.un hg hm hv ha.un hn hdb h)
theorem qTy {T : String} {r : List V → Hp → VK → Prop} {x : Str} {p pos : Pos} (hc : RCall X (.type T) r) (hg : Gl X x) (hm : X.mg x = none) (hv : bootBuiltins x = some (.type T)) (ha : QA X (e :: es) t) (hn : x ≠ "__name__" := by decide) (hdb : (x == ("__debug__" : Str)) = false := by decide)
    (h : (e :: es).all notStar = true := by rfl) : QE X (.Call (.Name x p) (e :: es) [] pos) (tCB r t) := .mk (cTy hc.un hg hm hv ha.un hn hdb h)
theorem qRange1 {ta : TA} {p pos : Pos} (hg : Gl X "range") (hm : X.mg "range" = none) (ha : QA X [a] ta) (h : notStar a = true := by rfl) : QE X (.Call (.Name "range" p) [a] [] pos) (tRng1 ta) := .mk (cRange1 hg hm ha.un h)
theorem qBm {name : Str} {apos cpos : Pos} {T id : String} {r : V → List V → Hp → VK → Prop} (K : PySem.W.Frag) (pa : PlainAttrs T) (slot : Slot T name id) (hty : typeOf (.builtin id) = pure (.type "method_descriptor")) (hm : RMt X id r) (ho : QE X o to) (ha : QA X (e :: es) t)
    (hbase : attributeBase o name X.env (eval o X.env) = eval o X.env := by rfl) (h : (e :: es).all notStar = true := by rfl) (hl : decide ((e :: es).length < 30) = true := by rfl)
    (hline : (apos.endLine == cpos.line) = true := by rfl) (hK : X.K = K := by rfl) : QE X (.Call (.Attribute o name apos) (e :: es) [] cpos) (tBM K T r to t) := .mk (kBm K pa slot hty hm.un ho.un ha.un hbase h hl hline hK)
theorem tcmp {op : CmpOp} {r : R2} (ho : ROp X (compareOp op) r) (ha : QE X a ta) (hb : QE X b tb) (hm : behindInMarks op b = false) : QT X (.Compare a [op] [b] pos) (tTest (tOp r ta tb)) := .mk (pt_cmpR ho.un ha.un hb.un hm)
theorem ttru (K : PySem.W.Frag) (ha : QE X a ta) (he : ∀ whole, isTrue a X.env whole = (do let v ← whole; standAt a.pos; holding [v] (truthy v))) (hK : X.K = K := by rfl) : QT X a (tTru K ta) := .mk (kTru K ha.un he hK)
theorem tnot (ha : QT X a tA) : QT X (.UnaryOp .Not a pos) (tNot tA) := .mk (pt_not ha.un)
theorem wand1 (ha : QT X a tA) : QW X (.BoolOp .And [a] pos) tA := .mk (pw_and1 ha.un)
theorem wor1 (ha : QT X a tA) : QW X (.BoolOp .Or [a] pos) tA := .mk (pw_or1 ha.un)
theorem wand (ha : QT X a tA) (hb : QW X (.BoolOp .And (b :: rest) pos) tB') : QW X (.BoolOp .And (a :: b :: rest) pos) (tAnd tA tB') := .mk (pw_and ha.un hb.un)
theorem wor (ha : QT X a tA) (hb : QW X (.BoolOp .Or (b :: rest) pos) tB') : QW X (.BoolOp .Or (a :: b :: rest) pos) (tOr tA tB') := .mk (pw_or ha.un hb.un)
theorem QW.tst (h : QW X a tA) : QT X a tA := .mk h.un.pt
theorem gname {i : Nat} {x : Str} (hN : X.N.Nodup) (hi : X.N[i]? = some x) (hx : Loc X.env.scope x) (hf : X.fn x = true ∨ X.env.scope.names.lookup x = some .local := by first | exact .inl rfl | exact .inr rfl | assumption) : QG X (.Name x pos) (gName i) := .mk (pg_name hN hi hx hf)
theorem gsnil : QGs X [] gNil := .mk pgs_nil
theorem gscons {t : TG} {u : TGs} (h1 : QG X e t) (h2 : QGs X es u) (hs : (assignEach (e :: es) X.env).map (·.2) = assign e X.env :: (assignEach es X.env).map (·.2) := by rfl) : QGs X (e :: es) (gCons t u) := .mk (pgs_cons h1.un h2.un hs)
theorem gtup {k : Nat} {t : TGs} {n : Nat} (K : PySem.W.Frag) (hc : X.calm = true) (h : QGs X es t) (hn : (assignEach es X.env).length = n := by rfl) (hst : (assignEach es X.env).findIdx? (·.1) = none := by rfl) (hK : X.K = K := by rfl) : QG X (.Tuple es k pos) (gTup K n t) := by
  subst hK; exact .mk (pg_tup hc h.un hn hst)
theorem gsub {i : Expr} {ti : TE} {t : TSet} (ho : QE X o to) (hi : QE X i ti) (hs : RSet X t) 
    (ha : ∀ v, assign (.Subscript o i pos) X.env v = (do
      let ov ← holding [v] (eval o X.env)
      let iv ← holding [v, ov] (eval i X.env)
      standAt pos
      holding [v, ov, iv] (setItem ov iv v)
      release [v, ov, iv] []) := by intro _; rfl) : QG X (.Subscript o i pos) (gSub to ti t) := .mk (pg_sub ho.un hi.un hs.un ha)
theorem iseq {tg : Expr} (K : PySem.W.Frag) (hl : QE X l tl) (hK : X.K = K := by rfl) : QI X tg l (iSeq K tl) := .mk (kSeq K hl.un hK)
theorem irange1 {tg : Expr} {ta : TA} {p pos : Pos} (hg : Gl X "range") (hm : X.mg "range" = none) (ha : QA X [a] ta) (h : notStar a = true := by rfl) : QI X tg (.Call (.Name "range" p) [a] [] pos) (iRng1 ta) := .mk (iRange1 hg hm ha.un h)
theorem csnil : QTs X [] tT0 := .mk pts_nil
theorem qcomp {elt target iter : Expr} {ifs : List Expr} {scope : Scope} {pos : Pos} {wi : TI} {g : TG} {tt : TT} {te : TE} {sc : Scope} {NX : List Str} (N' : List Str) (cs : List (Option Nat)) (hc : X.calm = true)
    (hi : QI X target iter wi) (hg : ∀ fp s3 H3, QG (cxC X N' scope fp s3 H3) target g) (ht : ∀ fp s3 H3, QTs (cxC X N' scope fp s3 H3) ifs tt) (he : ∀ fp s3 H3, QE (cxC X N' scope fp s3 H3) elt te)
    (hsc : X.env.scope = sc) (hN : X.N = NX) (hcs : csOk sc NX N' cs scope = true) (hs : ∀ x, foldedSetIterable iter X.env x = pure x := by intro _; rfl) :
    QE X (.ListComp elt [⟨target, iter, ifs, 0⟩] scope pos) (tComp cs wi g tt te) :=
  .mk (pe_comp N' cs hc hi.un (fun fp s3 H3 => (hg fp s3 H3).un) (fun fp s3 H3 => (ht fp s3 H3).un) (fun fp s3 H3 => (he fp s3 H3).un) hsc hN hcs hs)
variable {st : Stmt} {sts : List Stmt} {t1 t2 : TS}
theorem bnil : QSs X [] tNext := .mk pss_nil
theorem bcons (h1 : QS X st t1) (h2 : QSs X sts t2) : QSs X (st :: sts) (tSeq t1 t2) := .mk (pss_cons h1.un h2.un)
theorem bone (h1 : QS X st t1) : QSs X [st] t1 := .mk (pss_one h1.un)
theorem sexpr (he : QE X e te) (hs : swapsWith e none pos.line X.env = pure false := by rfl) : QS X (.Expr e pos) (tDrop te) := .mk (ps_expr he.un hs)
theorem sret (he : QE X e te) : QS X (.Return (some e) pos) (tRet te) := .mk (ps_ret he.un)
theorem sif {c : Expr} {a b : List Stmt} {tc : TT} (hc : QT X c tc) (ha : QSs X a t1) (hb : QSs X b t2) : QS X (.If c a b pos) (tIfS tc t1 t2) := .mk (ps_if hc.un ha.un hb.un)
theorem sset {i : Nat} {x : Str} {pos' : Pos} (hN : X.N.Nodup) (hi : X.N[i]? = some x) (hx : Loc X.env.scope x) (he : QE X e te) (hs : swapsWith e (some (.Name x pos')) pos.line X.env = pure false := by rfl) (hf : X.fn x = true ∨ X.env.scope.names.lookup x = some .local := by first | exact .inl rfl | exact .inr rfl | assumption) :
    QS X (.Assign [.Name x pos'] e pos) (tAsg te (gName i)) := .mk (ps_set hN hi hx he.un hs hf)
theorem sasg {tg : Expr} {g : TG} (he : QE X e te) (hg : QG X tg g) (hs : swapsWithSole [tg] e pos.line X.env = pure false := by rfl) (hw : swappedStores [tg] e X.env = pure none := by rfl)
    (h1 : (assignEach [tg] X.env).map (·.2) = [assign tg X.env] := by rfl) : QS X (.Assign [tg] e pos) (tAsg te g) := .mk (ps_asg he.un hg.un hs hw h1)
theorem sfor {tg iter : Expr} {body : List Stmt} {wi : TI} {g : TG} {tb : TS} (hp : PassesOwn (model X.prog X.w) X.A X.env X.xe) (hc : X.calm = true) (hi : QI X tg iter wi) (hg : QG X tg g) (hb : QSs X body tb)
    (hs : ∀ x, foldedSetIterable iter X.env x = pure x := by intro _; rfl) : QS X (.For tg iter body [] pos) (tFor wi g tb) := .mk (ps_for hp hc hi.un hg.un hb.un hs)
theorem swhile {c : Expr} {body : List Stmt} {tc : TT} {tb : TS} (hp : PassesOwn (model X.prog X.w) X.A X.env X.xe) (hc : QT X c tc) (hb : QSs X body tb) : QS X (.While c body [] pos) (tWhile tc tb) := .mk (ps_while hp hc.un hb.un)
end
theorem split {X : Cx} {body : List Stmt} {D : Ends} {σ : St} {H : Hp} (n : Nat) (M : St → Hp → Prop) (h2 : ∃ t, QSs X (body.drop n) t ∧ ∀ σ' H', M σ' H' → t D σ' H')
    (h1 : ∀ u, QSs X (body.drop n) u → (∀ σ' H', M σ' H' → u D σ' H') → ∃ t, QSs X body t ∧ t D σ H) : ∃ t, QSs X body t ∧ t D σ H := by
  obtain ⟨t, p, q⟩ := h2
  exact h1 t p q
theorem Fd.cal {P : Program} {w : World} {K : PySem.W.Frag} {mg : Str → Option Value} {base : Heap} {x : Str} {st : Stmt} {f : Addr} {N ps : List Str} {k : Nat} {sp : Sp} (F : Fd K mg x st f) (S : FnScope N ps (defScope st))
    (hb : ∀ (kV doc pm : Value) (an : Option Addr) (cdv ct : Value) (us : List Value), us.length = ps.length → bindArgs (PySem.W.fnOf x x (defArgs st) (defBody st) (defScope st) .none kV doc pm an cdv ct) ⟨us, []⟩ = pure (ps.zip us))
    (len : ∀ vs H Q E, sp vs H Q E → vs.length = ps.length)
    (hbody : ∀ (cdv : Value) (A : Around) (outer : List Env) (s : Shared) (H : Hp) (vs : List V) (Q : VK) (E : XK), Room k (A.deeper (envOfC x (defScope st) s.heap.objs.size f cdv)) → sp vs H Q E →
      ∃ t, QSs (cxOf CX0 P w K mg base N x (defScope st) f cdv A outer s H E).nox (defBody st) t ∧ t { nx := fun _ H' => Q .non H', rt := Q } (start N vs) H) : Cal P w K mg base CX0 (k + 1) x sp := by
  obtain ⟨⟨fd, F1⟩, F2⟩ := F
  refine ⟨f, fd, ps, F1.ok S len (fun cdv A outer s H vs Q E hr h => ?_), F2, F1.kp, F1.binds hb⟩
  obtain ⟨t, p, q⟩ := hbody cdv A outer s H vs Q E hr h
  exact ⟨t, p.un, q⟩
end L3
namespace L3
open PySem L2
def D.ty : D → String
  | .non => "NoneType"
  | .bl _ => "bool"
  | .int _ => "int"
  | .str _ => "str"
  | .tup _ => "tuple"
  | .lst _ => "list"
  | .emp => "dict"
theorem Rep.ty {K : PySem.W.Frag} {H : Hp} {v : V} {e : D} (h : Rep H v e) : TyOf K H v (.type e.ty) := by
  cases h with
  | non => exact .non
  | bl b => exact .bl b
  | int i => exact .int i
  | str x => exact .str x
  | tup e _ => exact .tup e
  | lst e _ => exact .lst e
  | emp e => exact .dK e
def D.isTup : D → Bool
  | .tup _ => true
  | _ => false
def D.isLst : D → Bool
  | .lst _ => true
  | _ => false
def D.isBl : D → Bool
  | .bl _ => true
  | _ => false
def D.isNum : D → Bool
  | .int _ => true
  | .bl _ => true
  | _ => false
theorem kit_tuple (K : PySem.W.Frag) : ∀ e : D, PySem.W.kitOne K (.type e.ty) (.type "tuple") = some e.isTup
  | .non => by kernel_rfl
  | .bl _ => by kernel_rfl
  | .int _ => by kernel_rfl
  | .str _ => by kernel_rfl
  | .tup _ => by kernel_rfl
  | .lst _ => by kernel_rfl
  | .emp => by kernel_rfl
theorem kit_list (K : PySem.W.Frag) : ∀ e : D, PySem.W.kitOne K (.type e.ty) (.type "list") = some e.isLst
  | .non => by kernel_rfl
  | .bl _ => by kernel_rfl
  | .int _ => by kernel_rfl
  | .str _ => by kernel_rfl
  | .tup _ => by kernel_rfl
  | .lst _ => by kernel_rfl
  | .emp => by kernel_rfl
theorem kit_int (K : PySem.W.Frag) : ∀ e : D, PySem.W.kitOne K (.type e.ty) (.type "int") = some e.isNum
  | .non => by kernel_rfl
  | .bl _ => by kernel_rfl
  | .int _ => by kernel_rfl
  | .str _ => by kernel_rfl
  | .tup _ => by kernel_rfl
  | .lst _ => by kernel_rfl
  | .emp => by kernel_rfl
theorem kit_bool (K : PySem.W.Frag) : ∀ e : D, PySem.W.kitOne K (.type e.ty) (.type "bool") = some e.isBl
  | .non => by kernel_rfl
  | .bl _ => by kernel_rfl
  | .int _ => by kernel_rfl
  | .str _ => by kernel_rfl
  | .tup _ => by kernel_rfl
  | .lst _ => by kernel_rfl
  | .emp => by kernel_rfl
end L3
namespace L3
open PySem L2
def Blk (X : Cx) (body : List Stmt) (D : Ends) (M : St → Hp → Prop) : Prop := ∃ t, QSs X body t ∧ ∀ σ H, M σ H → t D σ H
theorem Blk.split {X : Cx} {body : List Stmt} {D : Ends} {M : St → Hp → Prop} (n : Nat) (M2 : St → Hp → Prop) (h2 : Blk X (body.drop n) D M2)
    (h1 : ∀ u, QSs X (body.drop n) u → (∀ σ H, M2 σ H → u D σ H) → Blk X body D M) : Blk X body D M := by
  obtain ⟨t, p, q⟩ := h2
  exact h1 t p q
theorem Blk.run {X : Cx} {body : List Stmt} {D : Ends} {M : St → Hp → Prop} {σ : St} {H : Hp} (b : Blk X body D M) (h : M σ H) : ∃ t, QSs X body t ∧ t D σ H := by
  obtain ⟨t, p, q⟩ := b
  exact ⟨t, p, q σ H h⟩
end L3
namespace L3
open PySem L2 PyProof.Rows
theorem okQ {P : Program} {w : World} {K : PySem.W.Frag} {mg : Str → Option Value} {base : Heap} {x : Str} {st : Stmt} {f : Addr} {fd : FuncData} {N ps : List Str} {k : Nat} {sp : Sp} (F : Fun K x x st f fd) (S : FnScope N ps (defScope st))
    (len : ∀ vs H Q E, sp vs H Q E → vs.length = ps.length)
    (hbody : ∀ (cdv : Value) (A : Around) (outer : List Env) (s : Shared) (H : Hp) (vs : List V) (Q : VK) (E : XK), Room k (A.deeper (envOfC x (defScope st) s.heap.objs.size f cdv)) → sp vs H Q E →
      ∃ t, QSs (cxOf CX0 P w K mg base N x (defScope st) f cdv A outer s H E).nox (defBody st) t ∧ t { nx := fun _ H' => Q .non H', rt := Q } (start N vs) H) : FnOk P w K mg base CX0 (k + 1) f fd ps sp := by
  refine F.ok S len (fun cdv A outer s H vs Q E hr h => ?_)
  obtain ⟨t, p, q⟩ := hbody cdv A outer s H vs Q E hr h
  exact ⟨t, p.un, q⟩
end L3
namespace L3
open PySem PySem.Spec PyProof.Rows L2
section
variable {X : Cx}
def CDivB (i j : Int) : Prop := 0 < j ∧ j < 2 ^ 1000
theorem op_fdivB : OpR X (binaryOp .FloorDiv) (rI CDivB fun i j => .int (i / j)) := opI fun i j _ _ _ _ _ hc q => by
  refine floordiv_int (by have := hc.1; omega) (by rw [Int.fdiv_eq_ediv_of_nonneg _ (Int.le_of_lt hc.1)]; exact q) (.inl (PyProof.noPylong_of_log2 ?_))
  by_cases h0 : j.natAbs = 0
  · rw [h0]; decide +kernel
  · have : j.natAbs < 2 ^ 1000 := by have := hc.1; have := hc.2; omega
    exact Nat.lt_trans ((Nat.log2_lt h0).mpr this) (by decide)
theorem rDivB : ROp X (binaryOp .FloorDiv) (rI CDivB fun i j => .int (i / j)) := .mk op_fdivB
end
end L3
namespace HT
open PySem PyProof.Rows
section
open PySem.SeqAt
open PySem.AutoSeq1 (wpAny_loadPart')
open PySem.MeetsSeq PySem.MeetsSeq2 PySem.MeetsSeq3
end
section
variable {prog : Program} {w : World} {A : Around} {E : Value → Shared → Prop} {s : Shared}
end
end HT
namespace L3
open PySem PySem.Spec PyProof.Rows L2
section
variable {X : Cx}
theorem vals_of_ints : ∀ {us : List Value} {ns : List Int}, IntsAre us ns → Vals (ns.map V.int) us
  | _, _, .nil => .nil
  | _, _, .cons n t r => .cons ⟨t, rfl⟩ (vals_of_ints r)
def rSortL (K : PySem.W.Frag) : List V → Hp → VK → Prop := fun xs H Q => ∃ (p : Addr) (ns : List Int), xs = [.ref p] ∧ SqL K H p (ns.map V.int) ∧ ns.length < 64 ∧
  ∀ (q : Addr) (H' : Hp) (ns' : List Int), H q = none → Same H H' → H' q = some (.lst (ns'.map V.int)) → ns'.Perm ns → ns'.Pairwise (· ≤ ·) → Q (.ref q) H'
theorem call_sortL : CallR X (.builtin "sorted") (rSortL X.K) := by
  intro pins s σ H xs us Q I rv h
  obtain ⟨p, ns, rfl, hp, hn, q⟩ := h
  obtain ⟨u, rfl, ru⟩ := vals1 rv
  cases ru
  obtain ⟨its, r, pl, hz⟩ := I.list hp
  have hi := intsAre_of r
  have hlen := r.length
  rw [List.length_map] at hlen
  refine sorted_ints pl.isList hi (by omega) fun out ns' a1 a2 a3 => ?_
  obtain ⟨e, he⟩ := sortedAll_at s.heap its out
  have hl' : ns'.length = ns.length := a2.length_eq
  have hf : H (s.heap.objs.size + 1) = none := I.hok.fresh (Nat.le_succ _)
  refine ⟨.ref (s.heap.objs.size + 1), _, I.laid (t' := s.toks) (o := .lst (ns'.map V.int)) (fun b ob q => sortedAll_old q) (Nat.le_succ _) ⟨by rw [List.length_map]; exact Nat.le_of_lt (Nat.lt_of_lt_of_le (by omega : ns'.length < 64) (by decide)), out.toList, e, vals_of_ints a1, he⟩, rfl, q _ _ ns' hf (same_new hf) upd_same a2 a3⟩
theorem fSort (K : PySem.W.Frag) (hK : X.K = K := by rfl) : RCall X (.builtin "sorted") (rSortL K) := by subst hK; exact .mk call_sortL
end
end L3
namespace HT
open PySem PyProof.Rows
section
variable {prog : Program} {w : World} {A : Around} {R : Result → Shared → Prop} {I : Addr} {fp wr : List Addr} {n : Nat} {P : Nat → Value → Prop} {St : Nat → Heap → Prop} {K : Type} [DecidableEq K] {knd : KeyKind prog w K}
end
section
variable {prog : Program} {w : World} {A : Around} {E : Value → Shared → Prop} {s : Shared} {K : Type} [DecidableEq K] {knd : KeyKind prog w K}
end
end HT
namespace L3
open PySem PySem.Spec PyProof.Rows L2
section
variable {X : Cx}
end
end L3
namespace L3
open PySem PySem.Spec PyProof.Rows L2
section
variable {X : Cx} {pins : List (Addr × Obj)} {σ : L2.St} {H : Hp} {s : Shared} {h' : Heap}
end
section
variable {X : Cx}
end
end L3
namespace L3
open PySem PySem.Spec PyProof.Rows L2
section
variable {X : Cx}
variable {o e f : Expr} {apos cpos : Pos} {td ty tx : TE} {k : Nat} {A : Around}
end
end L3
namespace L3
open PySem PySem.Spec PyProof.Rows L2
section
variable {X : Cx} {tg : Expr}
variable {g : TG} {tt : TT} {te : TE} {acc : Addr} {σ0 : L2.St} {H0 : Hp} {Q : Hp → Prop}
end
end L3
namespace L3
open PySem PySem.Spec PyProof.Rows L2
section
variable {X : Cx}
end
section
variable {X : Cx}
end
end L3
namespace L3
inductive Tr where
  | nil
  | node (l : Tr) (k : Int) (r : Tr)
namespace Tr
def d : Tr → D
  | nil => .non
  | node l k r => .tup [l.d, .int k, r.d]
def ht : Tr → Nat
  | nil => 0
  | node l _ r => max l.ht r.ht + 1
def size : Tr → Nat
  | nil => 0
  | node l _ r => l.size + 1 + r.size
def keys : Tr → List Int
  | nil => []
  | node l k r => l.keys ++ [k] ++ r.keys
def ins (x : Int) : Tr → Tr
  | nil => node nil x nil
  | node l k r => if x < k then node (l.ins x) k r else node l k (r.ins x)
def build (xs : List Int) : Tr := xs.foldl (fun t x => t.ins x) nil
def ord : Tr → Option Int → Option Int → Prop
  | nil, _, _ => True
  | node l k r, lo, hi => (∀ a, lo = some a → a < k) ∧ (∀ b, hi = some b → k < b) ∧ l.ord lo (some k) ∧ r.ord (some k) hi
theorem ht_size : ∀ t : Tr, t.ht ≤ t.size
  | nil => Nat.le_refl _
  | node l k r => by have := ht_size l; have := ht_size r; simp only [ht, size]; omega
theorem keys_length : ∀ t : Tr, t.keys.length = t.size
  | nil => rfl
  | node l k r => by simp only [keys, size, List.length_append, List.length_singleton, keys_length l, keys_length r]
theorem dep_d : ∀ t : Tr, t.d.dep ≤ t.ht
  | nil => Nat.le_refl _
  | node l k r => by
    have := dep_d l
    have := dep_d r
    simp only [d, D.dep, deps, ht]
    omega
theorem ins_size (x : Int) : ∀ t : Tr, (t.ins x).size = t.size + 1
  | nil => rfl
  | node l k r => by
    unfold ins
    split
    · simp only [size, ins_size x l]; omega
    · simp only [size, ins_size x r]; omega
theorem mem_ins (x y : Int) : ∀ t : Tr, y ∈ (t.ins x).keys ↔ y = x ∨ y ∈ t.keys
  | nil => by simp [ins, keys]
  | node l k r => by
    unfold ins
    split
    · simp only [keys, List.mem_append, List.mem_singleton, mem_ins x y l]; grind
    · simp only [keys, List.mem_append, List.mem_singleton, mem_ins x y r]; grind
theorem ins_ord (x : Int) : ∀ (t : Tr) (lo hi : Option Int), t.ord lo hi → x ∉ t.keys → (∀ a, lo = some a → a < x) → (∀ b, hi = some b → x < b) → (t.ins x).ord lo hi
  | nil, lo, hi, _, _, h1, h2 => ⟨h1, h2, trivial, trivial⟩
  | node l k r, lo, hi, h, hx, h1, h2 => by
    obtain ⟨a1, a2, a3, a4⟩ := h
    simp only [keys, List.mem_append, List.mem_singleton, not_or] at hx
    unfold ins
    split
    · exact ⟨a1, a2, ins_ord x l lo (some k) a3 hx.1.1 h1 (fun b e => by cases e; assumption), a4⟩
    · refine ⟨a1, a2, a3, ins_ord x r (some k) hi a4 hx.2 (fun a e => ?_) h2⟩
      cases e
      have := hx.1.2
      omega
theorem foldl_ins : ∀ (xs : List Int) (t : Tr), (∀ lo hi, lo = none → hi = none → t.ord lo hi) → xs.Nodup → (∀ x ∈ xs, x ∉ t.keys) →
    (xs.foldl (fun t x => t.ins x) t).ord none none ∧ (xs.foldl (fun t x => t.ins x) t).size = t.size + xs.length ∧ ∀ y, y ∈ (xs.foldl (fun t x => t.ins x) t).keys ↔ y ∈ xs ∨ y ∈ t.keys
  | [], t, h, _, _ => ⟨h none none rfl rfl, by simp, by simp⟩
  | x :: r, t, h, hn, hx => by
    rw [List.foldl_cons]
    obtain ⟨h1, h2⟩ := List.nodup_cons.mp hn
    obtain ⟨b1, b2, b3⟩ := foldl_ins r (t.ins x) (fun lo hi e1 e2 => by subst e1 e2; exact ins_ord x t none none (h none none rfl rfl) (hx x List.mem_cons_self) (by simp) (by simp)) h2 (fun y hy => by
      rw [mem_ins]
      rintro (e | e)
      · subst e; exact h1 hy
      · exact hx y (List.mem_cons_of_mem _ hy) e)
    refine ⟨b1, by rw [b2, ins_size, List.length_cons]; omega, fun y => ?_⟩
    rw [b3, mem_ins, List.mem_cons]
    grind
theorem build_ok {xs : List Int} (h : xs.Nodup) : (build xs).ord none none ∧ (build xs).size = xs.length ∧ ∀ y, y ∈ (build xs).keys ↔ y ∈ xs := by
  obtain ⟨h1, h2, h3⟩ := foldl_ins xs nil (fun _ _ _ _ => trivial) h (by simp [keys])
  exact ⟨h1, by simpa [size, build] using h2, fun y => by simpa [keys, build] using h3 y⟩
end Tr
theorem nodup_append_of {xs ys : List Int} (hx : xs.Nodup) (hy : ys.Nodup) (h : ∀ x ∈ xs, ∀ y ∈ ys, x ≠ y) : (xs ++ ys).Nodup := List.nodup_append.mpr ⟨hx, hy, h⟩
theorem nodup_insert {xs : List Int} {x : Int} (i : Nat) (h : xs.Nodup) (hx : x ∉ xs) : (xs.take i ++ x :: xs.drop i).Nodup := by
  have hp : (xs.take i ++ x :: xs.drop i).Perm (x :: xs) := by
    have h1 : (xs.take i ++ x :: xs.drop i).Perm (x :: (xs.take i ++ xs.drop i)) := List.perm_middle
    rw [List.take_append_drop] at h1
    exact h1
  exact hp.nodup_iff.mpr (List.nodup_cons.mpr ⟨hx, h⟩)
theorem mem_insert {xs : List Int} {x y : Int} (i : Nat) : y ∈ xs.take i ++ x :: xs.drop i ↔ y = x ∨ y ∈ xs := by
  have hp : (xs.take i ++ x :: xs.drop i).Perm (x :: xs) := by
    have h1 : (xs.take i ++ x :: xs.drop i).Perm (x :: (xs.take i ++ xs.drop i)) := List.perm_middle
    rw [List.take_append_drop] at h1
    exact h1
  rw [hp.mem_iff, List.mem_cons]
theorem nodup_map_key {xs : List Int} {f : Int → Int} (h : xs.Nodup) (hf : ∀ a ∈ xs, ∀ b ∈ xs, f a = f b → a = b) : (xs.map f).Nodup := by
  induction xs with
  | nil => exact List.nodup_nil
  | cons x r ih =>
    obtain ⟨h1, h2⟩ := List.nodup_cons.mp h
    rw [List.map_cons]
    refine List.nodup_cons.mpr ⟨fun m => ?_, ih h2 fun a ha b hb => hf a (List.mem_cons_of_mem _ ha) b (List.mem_cons_of_mem _ hb)⟩
    obtain ⟨y, hy, e⟩ := List.mem_map.mp m
    have := hf y (List.mem_cons_of_mem _ hy) x List.mem_cons_self e
    subst this
    exact h1 hy
theorem Tr.size_foldl : ∀ (xs : List Int) (t : Tr), (xs.foldl (fun t x => t.ins x) t).size = t.size + xs.length
  | [], t => by simp
  | x :: r, t => by rw [List.foldl_cons, Tr.size_foldl r, Tr.ins_size, List.length_cons]; omega
theorem Tr.size_build (xs : List Int) : (Tr.build xs).size = xs.length := by
  unfold Tr.build
  rw [Tr.size_foldl]; simp [Tr.size]
def upN (n : Nat) : List Int := (List.range n).map fun k : Nat => (k : Int)
theorem upN_length (n : Nat) : (upN n).length = n := by simp [upN]
theorem mem_upN {n : Nat} {x : Int} : x ∈ upN n ↔ 0 ≤ x ∧ x < n := by
  unfold upN
  simp only [List.mem_map, List.mem_range]
  constructor
  · rintro ⟨k, hk, rfl⟩; omega
  · rintro ⟨h1, h2⟩; exact ⟨x.toNat, by omega, by omega⟩
theorem upN_nodup (n : Nat) : (upN n).Nodup := by
  unfold upN
  rw [List.Nodup, List.pairwise_map]
  exact List.Pairwise.imp (fun h e => h (by omega)) List.nodup_range
structure Ranks (n : Nat) (xs : List Int) : Prop where
  nd : xs.Nodup
  bd : ∀ x ∈ xs, 0 ≤ x ∧ x < n
  len : xs.length = n
theorem ranks_up (n : Nat) : Ranks n (upN n) := ⟨upN_nodup n, fun _ h => mem_upN.mp h, upN_length n⟩
theorem ranks_down (n : Nat) : Ranks n (upN n).reverse := ⟨(List.reverse_perm _).nodup_iff.mpr (upN_nodup n), fun _ h => mem_upN.mp (List.mem_reverse.mp h), by rw [List.length_reverse, upN_length]⟩
def inOut (n k : Int) : Int := if k % 2 = 0 then k / 2 else n - 1 - k / 2
theorem ranks_inOut (n : Nat) : Ranks n ((upN n).map (inOut n)) := by
  refine ⟨nodup_map_key (upN_nodup n) fun a ha b hb e => ?_, fun x h => ?_, by rw [List.length_map, upN_length]⟩
  · have := mem_upN.mp ha
    have := mem_upN.mp hb
    unfold inOut at e
    split at e <;> split at e <;> omega
  · obtain ⟨k, hk, rfl⟩ := List.mem_map.mp h
    have := mem_upN.mp hk
    unfold inOut
    split <;> omega
structure Mids (lo hi : Int) (xs : List Int) : Prop where
  nd : xs.Nodup
  bd : ∀ x ∈ xs, lo ≤ x ∧ x < hi
  len : (xs.length : Int) = hi - lo
theorem mids_nil (lo : Int) : Mids lo lo [] := ⟨List.nodup_nil, by simp, by simp⟩
theorem mids_node {lo hi m : Int} {xs ys : List Int} (h1 : lo ≤ m) (h2 : m < hi) (hx : Mids lo m xs) (hy : Mids (m + 1) hi ys) : Mids lo hi ([m] ++ xs ++ ys) := by
  refine ⟨?_, fun x h => ?_, ?_⟩
  · refine nodup_append_of (nodup_append_of (by simp) hx.nd ?_) hy.nd ?_
    · intro a ha b hb e
      have := hx.bd b hb
      rw [List.mem_singleton] at ha
      omega
    · intro a ha b hb e
      have := hy.bd b hb
      rcases List.mem_append.mp ha with ha | ha
      · rw [List.mem_singleton] at ha; omega
      · have := hx.bd a ha; omega
  · rcases List.mem_append.mp h with h | h
    · rcases List.mem_append.mp h with h | h
      · rw [List.mem_singleton] at h; omega
      · have := hx.bd x h; omega
    · have := hy.bd x h; omega
  · have a := hx.len
    have b := hy.len
    simp only [List.length_append, List.length_singleton]
    omega
theorem Mids.ranks {n : Nat} {xs : List Int} (h : Mids 0 n xs) : Ranks n xs := ⟨h.nd, fun x hx => h.bd x hx, by have := h.len; omega⟩
theorem ranks_insert {k : Nat} {xs : List Int} (h : Ranks k xs) (i : Nat) : Ranks (k + 1) (xs.take i ++ (k : Int) :: xs.drop i) := by
  refine ⟨nodup_insert i h.nd fun m => ?_, fun x m => ?_, ?_⟩
  · have := h.bd _ m; omega
  · rcases (mem_insert i).mp m with e | m
    · omega
    · have := h.bd x m; omega
  · have := h.len
    simp only [List.length_append, List.length_take, List.length_cons, List.length_drop]
    omega
theorem ranks_zero : Ranks 0 [] := ⟨List.nodup_nil, by simp, rfl⟩
theorem sq_inj {a b : Int} (ha : 0 ≤ a) (hb : 0 ≤ b) (h : a * a = b * b) : a = b := by
  rcases Int.lt_trichotomy a b with l | e | l
  · have h1 : a * a ≤ a * b := Int.mul_le_mul_of_nonneg_left (Int.le_of_lt l) ha
    have h2 : a * b < b * b := Int.mul_lt_mul_of_pos_right l (by omega)
    omega
  · exact e
  · have h1 : b * b ≤ b * a := Int.mul_le_mul_of_nonneg_left (Int.le_of_lt l) hb
    have h2 : b * a < a * a := Int.mul_lt_mul_of_pos_right l (by omega)
    omega
theorem key_inj {first gap x y : Int} (hg : 0 < gap) (h : first + gap * x = first + gap * y) : x = y := by
  have h1 : gap * x = gap * y := by omega
  exact Int.eq_of_mul_eq_mul_left (by omega) h1
def keyOf (first gap : Int) (bent : Int) (r : Int) : Int := first + gap * (if bent = 0 then r else r * r)
theorem keys_nodup {n : Nat} {xs : List Int} (h : Ranks n xs) {first gap bent : Int} (hg : 0 < gap) : (xs.map (keyOf first gap bent)).Nodup := by
  refine nodup_map_key h.nd fun a ha b hb e => ?_
  have h1 := (h.bd a ha).1
  have h2 := (h.bd b hb).1
  unfold keyOf at e
  have e := key_inj hg e
  split at e
  · exact e
  · exact sq_inj h1 h2 e
theorem keyOf_bound {first gap bent r : Int} (h1 : -(10 ^ 59) ≤ first) (h2 : first ≤ 10 ^ 59) (h3 : 0 < gap) (h4 : gap ≤ 10 ^ 56) (h5 : 0 ≤ r) (h6 : r ≤ 61) : -(10 ^ 61) < keyOf first gap bent r ∧ keyOf first gap bent r < 10 ^ 61 := by
  unfold keyOf
  have hz : 0 ≤ (if bent = 0 then r else r * r) ∧ (if bent = 0 then r else r * r) ≤ 4000 := by
    split
    · omega
    · have a1 : 0 ≤ r * r := Int.mul_nonneg h5 h5
      have a2 : r * r ≤ 61 * r := Int.mul_le_mul_of_nonneg_right h6 h5
      omega
  generalize (if bent = 0 then r else r * r) = z at hz
  have b1 : 0 ≤ gap * z := Int.mul_nonneg (by omega) hz.1
  have b2 : gap * z ≤ gap * 4000 := Int.mul_le_mul_of_nonneg_left hz.2 (by omega)
  omega
end L3
namespace L3
def maxI : List Int → Int
  | [] => 0
  | [a] => a
  | a :: r => max a (maxI r)
def ruleM (ks : List (Int × Int)) (room : Int) : Int × Int :=
  if ks = [] then (1, 1) else
    let lv := maxI (ks.map (·.1))
    let sz := 1 + ((ks.filter fun p => decide (p.1 = lv)).map (·.2)).sum
    if sz ≤ room then (lv, sz) else (lv + 1, 1)
namespace Tr
def mark (room : Int) : Tr → Int × Int
  | nil => (0, 0)
  | node l _ r => ruleM ((match l with | nil => [] | node .. => [l.mark room]) ++ (match r with | nil => [] | node .. => [r.mark room])) room
def pt (room : Int) : Tr → List (Int × Int × Int)
  | nil => []
  | node l k r => l.pt room ++ r.pt room ++ [(k, (node l k r).mark room)]
end Tr
abbrev Tab := List (Int × Int × Int)
def look (tb : Tab) (k : Int) : Option (Int × Int) := (tb.find? fun e => decide (e.1 = k)).map (·.2)
namespace Tr
end Tr
def Tr.sub (t : Tr) : List Tr := match t with
  | .nil => []
  | .node .. => [t]
end L3
namespace L3
open PySem L2
def PenAt (H : Hp) (p : Addr) : Prop := ∃ m n, H p = some (.lst [.int m, .int n])
theorem PenAt.mono {H H' : Hp} {p : Addr} (h : PenAt H p) (s : Same H H') : PenAt H' p := by
  obtain ⟨m, n, e⟩ := h
  exact ⟨m, n, s _ _ e⟩
theorem PenAt.ne {H : Hp} {p l : Addr} (h : PenAt H p) (e : H l = none) : l ≠ p := by
  obtain ⟨m, n, q⟩ := h
  intro z
  rw [z, q] at e; cases e
theorem PenAt.free {H H' : Hp} {p l : Addr} (h : PenAt H' p) (s : Same (rm p H) H') (e : H' l = none) : H l = none := by
  obtain ⟨m, n, q⟩ := h
  exact rm_free s e q
theorem rep_node {H : Hp} {v : V} {l r : Tr} {k : Int} (h : Rep H v (Tr.node l k r).d) : ∃ a vl vr, v = .ref a ∧ H a = some (.tup [vl, .int k, vr]) ∧ Rep H vl l.d ∧ Rep H vr r.d := by
  cases h with
  | @tup a vs xs e rs =>
    cases rs with
    | cons h1 r1 =>
      cases r1 with
      | cons h2 r2 =>
        cases r2 with
        | cons h3 r3 =>
          cases r3
          cases h2
          exact ⟨a, _, _, rfl, e, h1, h3⟩
theorem rep_nil {H : Hp} {v : V} (h : Rep H v Tr.nil.d) : v = .non := by cases h; rfl
theorem rep_mk {H : Hp} {a : Addr} {vl vr : V} {k : Int} {l r : D} (e : H a = some (.tup [vl, .int k, vr])) (h1 : Rep H vl l) (h2 : Rep H vr r) : Rep H (.ref a) (.tup [l, .int k, r]) := .tup e (.cons h1 (.cons (.int k) (.cons h2 .nil)))
theorem rep_rm {H : Hp} {p : Addr} {vs : List V} (hp : H p = some (.lst vs)) : ∀ (t : Tr) {v : V}, Rep H v t.d → Rep (rm p H) v t.d
  | .nil, v, h => by cases rep_nil h; exact .non
  | .node l k r, v, h => by
    obtain ⟨a, vl, vr, rfl, ea, hl, hr⟩ := rep_node h
    exact rep_mk (by rw [rm_ne (fun z => by rw [z, hp] at ea; cases ea)]; exact ea) (rep_rm hp l hl) (rep_rm hp r hr)
theorem rep_pen {H : Hp} {p : Addr} (hp : PenAt H p) (t : Tr) {v : V} (h : Rep H v t.d) : Rep (rm p H) v t.d := by
  obtain ⟨m, n, e⟩ := hp
  exact rep_rm e t h
theorem erv {n : Int} : rangeVs 0 n = (upN n.toNat).map V.int := by
  unfold rangeVs upN
  rw [List.map_map, Int.sub_zero]
  apply List.map_congr_left
  intro k _
  show V.int (0 + (k : Int)) = V.int (k : Int)
  rw [Int.zero_add]
theorem upN_succ (i : Nat) : upN (i + 1) = upN i ++ [(i : Int)] := by
  unfold upN
  rw [List.range_succ, List.map_append]; rfl
theorem pures_ints : ∀ ns : List Int, pures (ns.map D.int) = true
  | [] => rfl
  | n :: r => by rw [List.map_cons, pures, pures_ints r]; rfl
theorem deps_ints : ∀ ns : List Int, deps (ns.map D.int) = 0
  | [] => rfl
  | n :: r => by rw [List.map_cons, deps, deps_ints r]; rfl
theorem rep_ints {H : Hp} {a : Addr} {ns : List Int} (h : H a = some (.lst (ns.map V.int))) : Rep H (.ref a) (.lst (ns.map D.int)) := .lst h (Reps.ints ns)
theorem cut_hi (xs : List V) (k : Nat) : cutV xs none (some (k : Int)) = xs.take k := by
  unfold cutV
  rw [HT.sIx_none, HT.sIx_nat, List.drop_zero, Nat.sub_zero]
  rcases Nat.le_total k xs.length with h | h
  · rw [Nat.min_eq_left h]
  · rw [Nat.min_eq_right h, List.take_length, List.take_of_length_le h]
theorem cut_lo (xs : List V) (k : Nat) : cutV xs (some (k : Int)) none = xs.drop k := by
  unfold cutV
  rw [HT.sIx_none, HT.sIx_nat]
  rw [List.take_of_length_le (by rw [List.length_drop]; omega)]
  rcases Nat.le_total k xs.length with h | h
  · rw [Nat.min_eq_left h]
  · rw [Nat.min_eq_right h, List.drop_length, List.drop_eq_nil_of_le h]
end L3
namespace L3
open PySem L2
inductive DT (H : Hp) : List (Key × V) → Tab → Prop where
  | nil : DT H [] []
  | cons {k lv sz : Int} {b : Addr} {kvs : List (Key × V)} {tb : Tab} : H b = some (.tup [.int lv, .int sz]) → DT H kvs tb → DT H ((Sum.inl k, .ref b) :: kvs) ((k, lv, sz) :: tb)
theorem DT.mono {H H' : Hp} {kvs : List (Key × V)} {tb : Tab} (h : DT H kvs tb) (s : Same H H') : DT H' kvs tb := by
  induction h with
  | nil => exact .nil
  | cons e _ ih => exact .cons (s _ _ e) ih
theorem DT.upd {H : Hp} {kvs : List (Key × V)} {tb : Tab} {d : Addr} {o o' : HO} (h : DT H kvs tb) (hd : H d = some o) (ho : ∀ vs, o ≠ .tup vs) : DT (L2.upd H d o') kvs tb := by
  induction h with
  | nil => exact .nil
  | cons e _ ih =>
    refine .cons ?_ ih
    rw [upd_ne (fun z => by rw [z, hd] at e; exact ho _ (Option.some.inj e))]
    exact e
theorem DT.length {H : Hp} {kvs : List (Key × V)} {tb : Tab} (h : DT H kvs tb) : kvs.length = tb.length := by
  induction h with
  | nil => rfl
  | cons _ _ ih => rw [List.length_cons, List.length_cons, ih]
theorem DT.append {H : Hp} {a b : List (Key × V)} {s t : Tab} (h : DT H a s) (h' : DT H b t) : DT H (a ++ b) (s ++ t) := by
  induction h with
  | nil => exact h'
  | cons e _ ih => exact .cons e ih
theorem DT.val {H : Hp} {kvs : List (Key × V)} {tb : Tab} (h : DT H kvs tb) {k : Int} {m : Int × Int} (e : look tb k = some m) : ∃ b, valV kvs (Sum.inl k : Key) = some (.ref b) ∧ H b = some (.tup [.int m.1, .int m.2]) := by
  induction h with
  | nil => simp [look] at e
  | @cons k' lv sz b kvs tb eb _ ih =>
    unfold look at e
    rw [List.find?_cons] at e
    by_cases hk : k' = k
    · subst hk
      simp at e
      subst e
      exact ⟨b, valV_pos rfl, eb⟩
    · simp only [hk, decide_false] at e
      obtain ⟨b', h1, h2⟩ := ih e
      exact ⟨b', by rw [valV_neg (by simpa using hk)]; exact h1, h2⟩
theorem DT.none {H : Hp} {kvs : List (Key × V)} {tb : Tab} (h : DT H kvs tb) {k : Int} (hk : k ∉ tb.map (·.1)) : valV kvs (Sum.inl k : Key) = Option.none := by
  induction h with
  | nil => rfl
  | @cons k' lv sz b kvs tb eb _ ih =>
    simp only [List.map_cons, List.mem_cons, not_or] at hk
    rw [valV_neg (by simpa using fun z => hk.1 z.symm)]
    exact ih hk.2
theorem DT.put {H : Hp} {kvs : List (Key × V)} {tb : Tab} (h : DT H kvs tb) {k lv sz : Int} {b : Addr} (hk : k ∉ tb.map (·.1)) (eb : H b = some (.tup [.int lv, .int sz])) : DT H (putK kvs (Sum.inl k : Key) (.ref b)) (tb ++ [(k, lv, sz)]) := by
  rw [putK_new _ (h.none hk)]
  exact h.append (.cons eb .nil)
mutual
/-- data without a dict stand apart from a dict -/
theorem Rep.apart {H : Hp} {d : Addr} {kvs : List (Key × V)} (hd : H d = some (.dK kvs)) {v : V} {e : D} : Rep H v e → e.pure = true → Rep (rm d H) v e
  | .non, _ => .non
  | .bl b, _ => .bl b
  | .int i, _ => .int i
  | .str x, _ => .str x
  | .tup (a := a) ea r, h => .tup (by rw [rm_ne (fun z => by rw [z, hd] at ea; cases ea)]; exact ea) (Reps.apart hd r (by rw [D.pure] at h; exact h))
  | .lst (a := a) ea r, h => .lst (by rw [rm_ne (fun z => by rw [z, hd] at ea; cases ea)]; exact ea) (Reps.apart hd r (by rw [D.pure] at h; exact h))
  | .emp _, h => by rw [D.pure] at h; cases h
theorem Reps.apart {H : Hp} {d : Addr} {kvs : List (Key × V)} (hd : H d = some (.dK kvs)) {vs : List V} {es : List D} : Reps H vs es → pures es = true → Reps (rm d H) vs es
  | .nil, _ => .nil
  | .cons h r, q => by
    rw [pures, Bool.and_eq_true] at q
    exact .cons (Rep.apart hd h q.1) (Reps.apart hd r q.2)
end
end L3
namespace L3
open PySem L2
def Pen3 (H : Hp) (p : Addr) : Prop := ∃ m n c, H p = some (.lst [.int m, .int n, .int c])
theorem Pen3.mono {H H' : Hp} {p : Addr} (h : Pen3 H p) (s : Same H H') : Pen3 H' p := by
  obtain ⟨m, n, c, e⟩ := h
  exact ⟨m, n, c, s _ _ e⟩
theorem Pen3.ne {H : Hp} {p l : Addr} (h : Pen3 H p) (e : H l = none) : l ≠ p := by
  obtain ⟨m, n, c, q⟩ := h
  intro z
  rw [z, q] at e; cases e
theorem Pen3.free {H H' : Hp} {p l : Addr} (h : Pen3 H' p) (s : Same (rm p H) H') (e : H' l = none) : H l = none := by
  obtain ⟨m, n, c, q⟩ := h
  exact rm_free s e q
theorem Pen3.off {H : Hp} {p l : Addr} {o : HO} (h : Pen3 H p) (hl : p ≠ l) : Pen3 (upd H l o) p := by
  obtain ⟨m, n, c, q⟩ := h
  exact ⟨m, n, c, by rw [upd_ne hl]; exact q⟩
theorem ne_ints {H : Hp} {a b : Addr} {xs ys : List Int} {Q : VK} (ea : H a = some (.lst (xs.map V.int))) (eb : H b = some (.lst (ys.map V.int))) (h : Q (.bl (!decide (xs = ys))) H) : rNeG 150 (.ref a) (.ref b) H Q := by
  refine ⟨_, _, rep_ints ea, rep_ints eb, by rw [D.pure]; exact pures_ints xs, by rw [D.pure]; exact pures_ints ys, by rw [D.dep, deps_ints]; decide, ?_⟩
  by_cases he : xs = ys
  · subst he
    rw [D.eqv_refl]
    simpa using h
  · have hne : (D.lst (xs.map D.int)).eqv (.lst (ys.map D.int)) = false := eqv_ne (by rw [D.pure]; exact pures_ints xs) (by rw [D.pure]; exact pures_ints ys) (fun z => he (by
      injection z with z
      exact (List.map_inj_right (fun _ _ q => by injection q)).mp z))
    rw [hne]
    rw [decide_eq_false he] at h
    exact h
theorem eq_ints {H : Hp} {a b : Addr} {xs ys : List Int} {Q : VK} (ea : H a = some (.lst (xs.map V.int))) (eb : H b = some (.lst (ys.map V.int))) (h : Q (.bl (decide (xs = ys))) H) : rEqG 150 (.ref a) (.ref b) H Q := by
  refine ⟨_, _, rep_ints ea, rep_ints eb, by rw [D.pure]; exact pures_ints xs, by rw [D.pure]; exact pures_ints ys, by rw [D.dep, deps_ints]; decide, ?_⟩
  by_cases he : xs = ys
  · subst he
    rw [D.eqv_refl]
    simpa using h
  · have hne : (D.lst (xs.map D.int)).eqv (.lst (ys.map D.int)) = false := eqv_ne (by rw [D.pure]; exact pures_ints xs) (by rw [D.pure]; exact pures_ints ys) (fun z => he (by
      injection z with z
      exact (List.map_inj_right (fun _ _ q => by injection q)).mp z))
    rw [hne]
    rw [decide_eq_false he] at h
    exact h
theorem ne_same {H : Hp} {a b : Addr} {e : D} {Q : VK} (ra : Rep H (.ref a) e) (rb : Rep H (.ref b) e) (hp : e.pure = true) (hd : e.dep ≤ 140) (h : Q (.bl false) H) : rNeG 150 (.ref a) (.ref b) H Q := by
  refine ⟨_, _, ra, rb, hp, hp, by omega, ?_⟩
  rw [D.eqv_refl]; exact h
def Pgs (H : Hp) : List Addr → List (List Int) → Prop
  | [], [] => True
  | b :: bs, p :: ps => H b = some (.lst (p.map V.int)) ∧ Pgs H bs ps
  | _, _ => False
theorem Pgs.stay {H H' : Hp} : ∀ {bs : List Addr} {ps : List (List Int)}, Pgs H bs ps → (∀ b ∈ bs, H' b = H b) → Pgs H' bs ps
  | [], [], _, _ => trivial
  | b :: bs, p :: ps, h, s => ⟨by rw [s b (by simp)]; exact h.1, h.2.stay (fun c hc => s c (by simp [hc]))⟩
  | [], _ :: _, h, _ => h.elim
  | _ :: _, [], h, _ => h.elim
theorem Pgs.mono {H H' : Hp} : ∀ {bs : List Addr} {ps : List (List Int)}, Pgs H bs ps → Same H H' → Pgs H' bs ps
  | [], [], _, _ => trivial
  | b :: bs, p :: ps, h, s => ⟨s _ _ h.1, h.2.mono s⟩
  | [], _ :: _, h, _ => h.elim
  | _ :: _, [], h, _ => h.elim
theorem Pgs.len {H : Hp} : ∀ {bs : List Addr} {ps : List (List Int)}, Pgs H bs ps → bs.length = ps.length
  | [], [], _ => rfl
  | b :: bs, p :: ps, h => by simp [h.2.len]
  | [], _ :: _, h => h.elim
  | _ :: _, [], h => h.elim
theorem Pgs.snoc {H : Hp} {b : Addr} {p : List Int} : ∀ {bs : List Addr} {ps : List (List Int)}, Pgs H bs ps → H b = some (.lst (p.map V.int)) → Pgs H (bs ++ [b]) (ps ++ [p])
  | [], [], _, e => ⟨e, trivial⟩
  | c :: bs, q :: ps, h, e => ⟨h.1, h.2.snoc e⟩
  | [], _ :: _, h, _ => h.elim
  | _ :: _, [], h, _ => h.elim
theorem Pgs.at {H : Hp} : ∀ {bs : List Addr} {ps : List (List Int)} {j : Nat} {b : Addr}, Pgs H bs ps → bs[j]? = some b → ∃ p, ps[j]? = some p ∧ H b = some (.lst (p.map V.int))
  | [], [], _, _, _, e => by simp at e
  | c :: bs, q :: ps, 0, b, h, e => by simp at e; subst e; exact ⟨q, rfl, h.1⟩
  | c :: bs, q :: ps, j + 1, b, h, e => by simpa using Pgs.at h.2 (j := j) (by simpa using e)
  | [], _ :: _, _, _, h, _ => h.elim
  | _ :: _, [], _, _, h, _ => h.elim
theorem Pgs.of {H : Hp} : ∀ {bs : List Addr} {ps : List (List Int)} {b : Addr}, Pgs H bs ps → b ∈ bs → ∃ p, p ∈ ps ∧ H b = some (.lst (p.map V.int))
  | [], [], _, _, e => by simp at e
  | c :: bs, q :: ps, b, h, e => by
    rcases List.mem_cons.mp e with rfl | e
    · exact ⟨q, by simp, h.1⟩
    · obtain ⟨p, h1, h2⟩ := Pgs.of h.2 e
      exact ⟨p, by simp [h1], h2⟩
  | [], _ :: _, _, h, _ => h.elim
  | _ :: _, [], _, h, _ => h.elim
end L3
namespace L3
open PySem L2
def way (k : Int) : Tr → List Int
  | .nil => []
  | .node l x r => if x = k then [k] else x :: (if k < x then way k l else way k r)
def at_ (k : Int) : Tr → Tr
  | .nil => .nil
  | .node l x r => if x = k then .node l x r else if k < x then at_ k l else at_ k r
theorem ord_bd : ∀ (t : Tr) (lo hi : Option Int), t.ord lo hi → ∀ y ∈ t.keys, (∀ a, lo = some a → a < y) ∧ ∀ b, hi = some b → y < b
  | .nil, lo, hi, _, y, hy => by simp [Tr.keys] at hy
  | .node l x r, lo, hi, h, y, hy => by
    obtain ⟨h1, h2, h3, h4⟩ := h
    simp only [Tr.keys, List.mem_append, List.mem_singleton] at hy
    rcases hy with (hy | hy) | hy
    · obtain ⟨g1, g2⟩ := ord_bd l lo (some x) h3 y hy
      refine ⟨g1, fun b hb => ?_⟩
      have := g2 x rfl
      have := h2 b hb
      omega
    · subst hy; exact ⟨h1, h2⟩
    · obtain ⟨g1, g2⟩ := ord_bd r (some x) hi h4 y hy
      refine ⟨fun a ha => ?_, g2⟩
      have := g1 x rfl
      have := h1 a ha
      omega
theorem ord_l {l r : Tr} {x : Int} {lo hi : Option Int} (h : (Tr.node l x r).ord lo hi) {y : Int} (hy : y ∈ l.keys) : y < x := (ord_bd l lo (some x) h.2.2.1 y hy).2 x rfl
theorem ord_r {l r : Tr} {x : Int} {lo hi : Option Int} (h : (Tr.node l x r).ord lo hi) {y : Int} (hy : y ∈ r.keys) : x < y := (ord_bd r (some x) hi h.2.2.2 y hy).1 x rfl
theorem ord_rise : ∀ (t : Tr) (lo hi : Option Int), t.ord lo hi → t.keys.Pairwise (· < ·)
  | .nil, _, _, _ => by simp [Tr.keys]
  | .node l x r, lo, hi, h => by
    have g1 := ord_rise l _ _ h.2.2.1
    have g2 := ord_rise r _ _ h.2.2.2
    rw [Tr.keys, List.append_assoc, List.pairwise_append]
    refine ⟨g1, ?_, fun a ha b hb => ?_⟩
    · rw [List.singleton_append, List.pairwise_cons]
      exact ⟨fun b hb => ord_r h hb, g2⟩
    · have := ord_l h ha
      rw [List.singleton_append] at hb
      rcases List.mem_cons.mp hb with rfl | hb
      · exact this
      · have := ord_r h hb; omega
end L3
namespace L3
open PySem PySem.Spec PyProof.Rows L2
section
variable {X : Cx} {pins : List (Addr × Obj)} {σ : L2.St} {H : Hp} {s : Shared} {a : Addr} {y d : V} {u r : Value} {o : Option V} {A : Around} {E : Value → Shared → Prop}
end
section
variable {X : Cx} {o e f : Expr} {apos cpos : Pos} {td ty tx : TE}
variable {k : Nat} {A : Around}
end
@[irreducible] def QP (X : Cx) (pos : Pos) (ks : List (Option Expr)) (vs : List Expr) (trs : List (TE × TE)) : Prop := PPs X pos ks vs trs
section
variable {X : Cx} {pos : Pos} {kx vx : Expr} {ks : List (Option Expr)} {vs : List Expr} {tk tv : TE} {trs : List (TE × TE)}
theorem QP.un (h : QP X pos ks vs trs) : PPs X pos ks vs trs := by unfold QP at h; exact h
end
end L3
namespace L3
open PySem PySem.Spec PyProof.Rows L2
section
variable {X : Cx}
variable {a b : Expr} {ta tb : TE} {pos : Pos} {k : Nat} {A : Around}
end
end L3
namespace L3
open PySem PySem.Spec PyProof.Rows L2
section
variable {X : Cx}
end
end L3
namespace L3
open PySem PySem.Spec PyProof.Rows L2
section
variable {X : Cx}
end
end L3
namespace L3
open PySem PySem.Spec PyProof.Rows L2
section
variable {X : Cx}
end
section
variable {prog : Program} {w : World} {A : Around} {E : Value → Shared → Prop} {s : Shared}
def TAt (h : Heap) (i l : Addr) (xs : Array Value) (k : Nat) : Prop := h.IsTupleIter i l k ∧ h.IsTuple l xs
theorem TAt.but {h h' : Heap} {i l b : Addr} {xs : Array Value} {k : Nat} (x : TAt h i l xs k) (e : Heap.ExtBut b h h') (h1 : i ≠ b) (h2 : l ≠ b) : TAt h' i l xs k := ⟨x.1.extBut e h1, x.2.extBut e h2⟩
end
end L3
namespace L3
open PySem PySem.Spec PyProof.Rows L2
section
variable {prog : Program} {w : World} {A : Around} {E : Value → Shared → Prop} {s : Shared}
end
end L3
namespace L3
open PySem PySem.Spec PyProof.Rows L2
section
variable {X : Cx}
end
end L3
namespace L3
open PySem PySem.Spec PyProof.Rows L2
section
variable {X : Cx}
end
end L3
namespace L3
open PySem PySem.Spec PyProof.Rows L2
section
variable {prog : Program} {w : World} {A : Around}
variable {R : Result → Shared → Prop} {it : Addr} {fp wr : List Addr} {n : Nat} {P : Nat → Value → Prop} {St : Nat → Heap → Prop} {kw : List (Str × Value)}
end
section
variable {X : Cx}
end
end L3
namespace HT
open PySem PyProof.Rows
abbrev IsZip2 (h : Heap) (z TI TO T : Addr) (b : Bool) : Prop :=
  h.get? z = some { cls := .type "zip", dict := none, data := .fields #[rawInt T, .bool b, .bool false, .ref TI, .ref TO], slots := #[] }
section
variable {prog : Program} {w : World} {A : Around} {E : Value → Shared → Prop} {s : Shared}
end
end HT
namespace HT
open PySem PyProof.Rows
section
variable {prog : Program} {w : World} {A : Around} {E : Value → Shared → Prop} {s : Shared}
def ZS (z TI TO i1 i2 l1 l2 : Addr) (i : Nat) (h : Heap) : Prop :=
  IsPair h TI (.ref i1) (.ref i2) ∧ h.IsListIter i1 l1 i ∧ h.IsListIter i2 l2 i ∧ (∃ a b, IsPair h TO a b) ∧ ((IsZip h z TI TO .none) ∨ ∃ T b o, IsZip2 h z TI TO T b ∧ h.get? T = some o ∧ T ≠ z ∧ T ≠ TO ∧ T ≠ i1 ∧ T ≠ i2)
theorem ZS.frame {z TI TO i1 i2 l1 l2 S : Addr} {i : Nat} {h h' : Heap} {oS : Obj} (hs : ZS z TI TO i1 i2 l1 l2 i h) (hS : S ≠ z ∧ S ≠ TI ∧ S ≠ TO ∧ S ≠ i1 ∧ S ≠ i2) (k : ∀ c o, c ≠ S → h.get? c = some o → h'.get? c = some o) (eS : h'.get? S = some oS) : ZS z TI TO i1 i2 l1 l2 i h' := by
  obtain ⟨hTI, h1, h2, ⟨a, b, hTO⟩, hz⟩ := hs
  obtain ⟨s1, s2, s3, s4, s5⟩ := hS
  refine ⟨k _ _ s2.symm hTI, h1.at fun o e => k _ o s4.symm e, h2.at fun o e => k _ o s5.symm e, ⟨a, b, k _ _ s3.symm hTO⟩, ?_⟩
  rcases hz with hz | ⟨T, c, o, hz, hT, t⟩
  · exact .inl (k _ _ s1.symm hz)
  · by_cases hTS : T = S
    · subst hTS; exact .inr ⟨T, c, oS, k _ _ s1.symm hz, eS, t⟩
    · exact .inr ⟨T, c, o, k _ _ s1.symm hz, k _ _ hTS hT, t⟩
variable {R : Result → Shared → Prop} {K : Type} [DecidableEq K] {knd : KeyKind prog w K}
end
end HT
namespace L3
open PySem PySem.Spec PyProof.Rows L2
section
variable {X : Cx}
end
end L3
namespace L3
open PySem PySem.Spec PyProof.Rows L2
section
variable {X : Cx}
end
end L3
namespace L3
open PySem PySem.Spec PyProof.Rows L2
section
variable {X : Cx} {tg : Expr}
variable {g : TG} {tt : TT} {te : TE} {acc : Addr} {σ0 : L2.St} {H0 : Hp} {Q : Hp → Prop}
end
end L3
namespace L3
open PySem PySem.Spec PyProof.Rows L2
section
variable {X : Cx}
end
end L3
namespace L3
open PySem PySem.Spec PyProof.Rows L2
section
variable {X : Cx}
end
end L3
namespace HS
open PySem PySem.W PyProof.Rows
def Good (r : Nat → Nat) (n : Nat) {α : Type} : KasT α → (α → Prop) → Prop
  | .ret a, Q => Q a
  | .ask i j k, Q => i < n ∧ j < n ∧ Good r n (k (decide (r i < r j))) Q
section
variable {r : Nat → Nat} {n : Nat}
theorem Good.mono {α : Type} {Q Q' : α → Prop} (hq : ∀ a, Q a → Q' a) : ∀ {t : KasT α}, Good r n t Q → Good r n t Q'
  | .ret a, h => hq a h
  | .ask _ _ k, h => ⟨h.1, h.2.1, Good.mono hq (t := k _) h.2.2⟩
theorem Good.bind {α β : Type} {f : α → KasT β} {Q : β → Prop} : ∀ {t : KasT α}, Good r n t (fun a => Good r n (f a) Q) → Good r n (t.bind f) Q
  | .ret _, h => h
  | .ask _ _ k, h => ⟨h.1, h.2.1, Good.bind (t := k _) h.2.2⟩
theorem Good.no {α : Type} {Q : α → Prop} {t u : KasT α} {c : Prop} [Decidable c] (hc : ¬ c) (h : Good r n u Q) : Good r n (if decide c = true then t else u) Q := by
  rw [if_neg (by simpa using hc)]; exact h
def R (r : Nat → Nat) (p : Array Nat) (i : Nat) : Nat := r (p.getD i 0)
def Ar (n : Nat) (p : Array Nat) : Prop := p.toList.Perm (List.range n)
theorem Ar.size {p : Array Nat} (h : Ar n p) : p.size = n := by
  have := h.length_eq
  rw [List.length_range, Array.length_toList] at this
  exact this
theorem Ar.lt {p : Array Nat} (h : Ar n p) (h0 : 0 < n) (i : Nat) : p.getD i 0 < n := by
  rw [Array.getD_eq_getD_getElem?]
  by_cases hi : i < p.size
  · rw [getElem?_pos p i hi]
    have : p[i] ∈ p.toList := by simp
    exact List.mem_range.mp (h.mem_iff.mp this)
  · rw [getElem?_neg p i hi]; exact h0
end
end HS
namespace HS
open PySem PySem.W PyProof.Rows
section
variable {prog : Program} {w : World} {A : Around} {E : Value → Shared → Prop} {s : Shared}
inductive F2 {α β : Type} (R : α → β → Prop) : List α → List β → Prop where
  | nil : F2 R [] []
  | cons {a : α} {b : β} {as : List α} {bs : List β} : R a b → F2 R as bs → F2 R (a :: as) (b :: bs)
theorem F2.length_eq {α β : Type} {R : α → β → Prop} {as : List α} {bs : List β} (h : F2 R as bs) : as.length = bs.length := by
  induction h with
  | nil => rfl
  | cons _ _ ih => rw [List.length_cons, List.length_cons, ih]
theorem F2.imp {α β : Type} {R S : α → β → Prop} (f : ∀ a b, R a b → S a b) {as : List α} {bs : List β} (h : F2 R as bs) : F2 S as bs := by
  induction h with
  | nil => exact .nil
  | cons r _ ih => exact .cons (f _ _ r) ih
def TupIs (h : Heap) (v : Value) (ns : List Int) : Prop := ∃ a its, v = .ref a ∧ IsTup h a its ∧ IntsAre its.toList ns
theorem TupIs.kept {h h' : Heap} {v : Value} {ns : List Int} (t : TupIs h v ns) (k : ∀ b o, h.get? b = some o → h'.get? b = some o) : TupIs h' v ns := by
  obtain ⟨a, its, rfl, ⟨o, q, c⟩, i⟩ := t
  exact ⟨a, its, rfl, ⟨o, k a o q, c⟩, i⟩
end
end HS
namespace L3
open PySem PySem.Spec PyProof.Rows L2
section
variable {X : Cx}
end
end L3
namespace HS
open PySem PySem.W PyProof.Rows
section
variable {prog : Program} {w : World} {A : Around} {E : Value → Shared → Prop} {s : Shared}
def FstIs (h : Heap) (v : Value) (n : Int) : Prop := ∃ a its t r, v = .ref a ∧ IsTup h a its ∧ its.toList = Value.int n t :: r
theorem FstIs.kept {h h' : Heap} {v : Value} {n : Int} (t : FstIs h v n) (k : ∀ b o, h.get? b = some o → h'.get? b = some o) : FstIs h' v n := by
  obtain ⟨a, its, t, r, rfl, ⟨o, q, c⟩, i⟩ := t
  exact ⟨a, its, t, r, rfl, ⟨o, k a o q, c⟩, i⟩
end
end HS
namespace L3
open PySem PySem.Spec PyProof.Rows L2
section
variable {X : Cx}
end
end L3
namespace L3
open PySem PySem.Spec PyProof.Rows PySem.W L2
section
variable {X : Cx}
end
end L3
namespace L3
open PySem PySem.Spec PyProof.Rows L2
section
variable {X : Cx}
end
end L3
namespace L3
open PySem PySem.Spec PyProof.Rows L2
section
variable {P : Program} {w : World} {K : PySem.W.Frag} {mg : Str → Option Value} {base : Heap}
end
section
variable {X : Cx}
end
end L3
namespace L3
open PySem PySem.Spec PyProof.Rows L2
section
variable {X : Cx}
end
section
variable {P : Program} {w : World} {K : PySem.W.Frag} {mg : Str → Option Value} {base : Heap}
end
end L3
namespace L3
open PySem PySem.Spec PyProof.Rows L2
end L3
namespace L3
open PySem PySem.Spec PyProof.Rows L2
end L3
namespace L3
open PySem PySem.Spec PyProof.Rows L2
section
variable {prog : Program} {w : World} {A : Around}
variable {R : Result → Shared → Prop} {it : Addr} {fp wr : List Addr} {n : Nat} {P : Nat → Value → Prop} {St : Nat → Heap → Prop} {kw : List (Str × Value)}
end
section
variable {X : Cx}
end
end L3
namespace L3
open PySem PySem.Spec PySem.Calls PyProof.Rows L2
section
open Builtin Builtin.ObjectAttr Builtin.Getset_descriptor
structure ExcF (K : PySem.W.Frag) (C : Addr) : Prop where
  ga : PySem.W.findIn K (.ref C) "__getattribute__" = some (some (.builtin "BaseException.__getattribute__"))
  gt : PySem.W.findIn K (.ref C) "__getattr__" = some none
  bas : PySem.W.mroIn K C (.type "BaseException") = some true
  isc : (PySem.W.clsIn K C).isSome = true
  fnd : PySem.W.findIn K (.ref C) "__class__" = some (some (.builtin "object.__class__"))
  spc : PySem.W.specialIn K (.builtin "object.__class__") "__get__" = some (some (.builtin "getset_descriptor.__get__"))
  tks : PySem.W.takesIn K (.builtin "object.__class__") = some true
  mro : PySem.W.mroIn K C (.type "object") = some true
def ExcAt (a C : Addr) (h : Heap) : Prop := ∃ o, h.get? a = some o ∧ o.cls = .ref C
section
variable {K : PySem.W.Frag} {x D : Addr}
theorem exc_ty {M : Model} {h : Heap} (e : ExcAt x D h) : PySem.W.Looks M h (typeOf (.ref x)) (.ref D) := by
  obtain ⟨o, e1, e2⟩ := e
  rw [← e2]
  exact (PySem.W.Looks.ld e1).andThen .now
theorem exc_find {M : Model} {h : Heap} (F : ExcF K D) (X : K.In h) : PySem.W.Looks M h (find (.ref x) (.ref D) "__class__") (.bind (.builtin "getset_descriptor.__get__") (.builtin "object.__class__")) := by
  have l1 := PySem.W.looks_findIn (M := M) X F.fnd
  have l2 : PySem.W.Looks M h (getOf (some (.builtin "object.__class__"))) (some (.builtin "getset_descriptor.__get__")) := PySem.W.looks_specialIn X F.spc
  have l3 : PySem.W.Looks M h (dataDescriptor? (some (.builtin "object.__class__")) (some (.builtin "getset_descriptor.__get__"))) (some (.builtin "getset_descriptor.__get__", .builtin "object.__class__")) := (PySem.W.looks_takesIn (M := M) X F.tks).andThen .now
  exact l1.andThen (l2.andThen (l3.andThen (PySem.W.Looks.tag .now)))
variable {prog : Program} {w : World} {A : Around} {E : Value → Shared → Prop} {s : Shared}
theorem exc_get {R : Result → Shared → Prop} {tp : Value} (F : ExcF K D) (X : K.In s.heap) (e : ExcAt x D s.heap) (h : R (.ok (.ret (.ref D))) s) :
    codeAny (model prog w) A (.call (.builtin "getset_descriptor.__get__") ⟨[.builtin "object.__class__", .ref x, tp], []⟩) R s := by
  obtain ⟨h0, g0, d0, t0, o0⟩ := s
  have la := exc_ty (M := model prog w) e
  have lb := PySem.W.looks_mroIn (M := model prog w) X F.mro
  refine codeAny_call_builtin PySem.W.KF.slot_gs.plain PySem.W.KF.entry_gs (PySem.W.KF.slot_gs.check _ _ _ _ _ _ _ _ PySem.W.KF.type_class (PySem.W.KF.args_gs _ _ _) ?_)
  unfold Builtin.«getset_descriptor.__get__»; unfold descrGet
  rw [PySem.W.dga_obj]; refine wpAny_bind (wpAny_pure ?_)
  unfold descrGetter; unfold descrCheckInstance descrNameAndClass; unfold isInstance
  simp only [PySem.W.KF.owner_class]
  repeat lk
  refine ⟨Code.quiet_builtin _ (by decide +kernel), codeAny_builtin PySem.W.KF.entry_class ?_⟩
  unfold Builtin.«object.__class__»; unfold shownTypeOf
  repeat lk
  exact h
theorem exc_ask {R : Result → Shared → Prop} {tk : Tok} (F : ExcF K D) (X : K.In s.heap) (e : ExcAt x D s.heap) (h : R (.ok (.ret (.ref D))) s) :
    codeAny (model prog w) A (.call (.builtin "BaseException.__getattribute__") ⟨[.ref x, .str "__class__" tk], []⟩) R s := by
  obtain ⟨h0, g0, d0, t0, o0⟩ := s
  have la := exc_ty (M := model prog w) e
  have lm := PySem.W.looks_mroIn (M := model prog w) X F.bas
  have lc := exc_find (M := model prog w) (x := x) F X
  refine codeAny_call_builtin PySem.F.attr_ValueError.ga.plain PySem.F.entry_bexc_ga ?_
  have k1 : builtinKind "BaseException.__getattribute__" = some .slot := by decide +kernel
  have k2 : splitId "BaseException.__getattribute__" = some ("BaseException", "__getattribute__") := by decide +kernel
  have k3 := PySem.F.args_bexc_ga (.ref x) (.str "__class__" tk)
  simp only [checkBuiltinCall, k1, k2]
  refine wpAny_bind ?_
  unfold isInstance
  refine wpAny_bind (la.at (lm.at ?_))
  simp only [Bool.not_true, Bool.false_eq_true, if_false]
  repeat (any_goals (first | assumption | wp_step))
  obtain ⟨o, e1, e2⟩ := id e
  refine wpAny_loadPart_at e1 (wpAny_pure ?_)
  rw [e2]
  refine wpAny_bind (lc.at ?_)
  dsimp only
  unfold bindTo
  refine wpAny_bind (wpAny_holding (wpAny_call (exc_get F X e ?_)))
  exact wpAny_pure h
theorem exc_class {Q : Option Value → Shared → Prop} (F : ExcF K D) (X : K.In s.heap) (e : ExcAt x D s.heap) (h : Q (some (.ref D)) { s with toks := s.toks + 1 }) : wpAny (model prog w) A (getAttr? (.ref x) "__class__") Q E s := by
  obtain ⟨h0, g0, d0, t0, o0⟩ := s
  have la := exc_ty (M := model prog w) e
  have lb := PySem.W.looks_findIn (M := model prog w) X F.ga
  have ld := PySem.W.looks_findIn (M := model prog w) X F.gt
  have hx : ¬ (onTheHeap (Value.ref D) && Value.builtin "BaseException.__getattribute__" == Value.builtin "object.__getattribute__") = true := by
    rw [show (Value.builtin "BaseException.__getattribute__" == Value.builtin "object.__getattribute__") = false by decide +kernel, Bool.and_false]
    exact Bool.false_ne_true
  unfold getAttr?; unfold getAttrBy?; unfold getAttrBy
  refine wpAny_bind (wpAny_mkText (wpAny_bind (wpAny_attempt (wpAny_holding (wpAny_bind (la.at (wpAny_bind (lb.at ?_))))))))
  dsimp only
  rw [if_neg hx]
  unfold getAttrByItsOwn
  refine wpAny_bind (m := hookBefore (.ref D)) (ld.at ?_)
  refine wpAny_bind (wpAny_attempt (wpAny_holding ?_))
  change wpAny _ _ (boundAndCalled (.builtin "BaseException.__getattribute__") (.ref x) (.str "__class__" t0)) _ _ _
  unfold boundAndCalled
  refine wpAny_bind (wpAny_of_eq (PySem.F.attr_ValueError.ga.bind _) ?_)
  refine wpAny_call (exc_ask F X e ?_)
  exact PySem.W.handed_on rfl (wpAny_pure h)
theorem kitx_exc (F : ExcF K D) : PySem.W.KitX K (.ref x) (.ref D) (ExcAt x D) where
  ty := fun _ _ _ e => exc_ty e
  it := fun _ _ X _ => by
    have z := F.isc
    unfold PySem.W.clsIn at z
    split at z
    · rename_i ho
      intro A' Q' E' s' k q
      unfold isType; unfold loadHead
      exact wpAny_bind (wpAny_loadPart (k _ _ (X _ _ ho)) (wpAny_pure q))
    · cases z
  ne := fun h tp dd its n sl X htp => by
    refine Bool.eq_false_iff.mpr fun q => ?_
    have e : D = tp := Value.ref.inj (beq_iff_eq.mp q)
    subst e
    have z := F.isc
    unfold PySem.W.clsIn at z
    split at z
    · rename_i ho
      cases (X _ _ ho).symm.trans htp
    · cases z
  ca := fun X e k => exc_class F X e k
end
end
def excE (a C : Addr) : HO := .ext (ExcAt a C)
def rIsE (K : PySem.W.Frag) : List V → Hp → VK → Prop := fun xs H Q => ∃ (a C : Addr) (y : V), xs = [.ref a, y] ∧ H a = some (excE a C) ∧ ExcF K C ∧
  ((∃ T b, y = .ty T ∧ PySem.W.kitOne K (.ref C) (.type T) = some b ∧ Q (.bl b) H) ∨ (∃ D b, y = .ref D ∧ PySem.W.kitOne K (.ref C) (.ref D) = some b ∧ Q (.bl b) H) ∨
    ∃ (tp : Addr) (ds : List Addr) (b : Bool), y = .ref tp ∧ H tp = some (.tup (ds.map V.ref)) ∧ PySem.W.kitAny K (.ref C) (ds.map Value.ref) = some b ∧ Q (.bl b) H)
theorem vals_ads : ∀ {ds : List Addr} {us : List Value}, Vals (ds.map V.ref) us → us = ds.map Value.ref
  | [], _, .nil => rfl
  | d :: ds, _, .cons r t => by
    rw [vals_ads t]
    cases (show _ = Value.ref d from r)
    rfl
section
variable {X : Cx}
theorem call_isE : CallR X (.builtin "isinstance") (rIsE X.K) := by
  intro pins s σ H vs us Q I r h
  obtain ⟨a, C, y, rfl, ea, F, h⟩ := h
  cases r with
  | cons r1 r =>
  cases r with
  | cons r2 r =>
  cases r
  rename_i u1 u2
  cases (show u1 = Value.ref a from r1)
  have he : ExcAt a C s.heap := (show ObjOk X.prog X.w H s.heap a (.ext (ExcAt a C)) from I.hok a _ ea).1
  rcases h with ⟨T, b, rfl, e, q⟩ | ⟨D, b, rfl, e, q⟩ | ⟨tp, ds, b, rfl, et, e, q⟩
  · cases (show u2 = Value.type T from r2)
    exact PySem.W.kia_one (kitx_exc F) I.kIn he e (fun z => nomatch z) fun tk => ⟨.bl b, H, I.tok tk, rfl, q⟩
  · cases (show u2 = Value.ref D from r2)
    exact PySem.W.kia_one (kitx_exc F) I.kIn he e (fun z => nomatch z) fun tk => ⟨.bl b, H, I.tok tk, rfl, q⟩
  · cases (show u2 = Value.ref tp from r2)
    obtain ⟨_, its, rv, o, h1, h2, h3⟩ := (show ObjOk X.prog X.w H s.heap tp (.tup (ds.map V.ref)) from I.hok tp _ et)
    obtain rfl := vals_ads rv
    obtain ⟨oc, od, oda, osl⟩ := o
    cases h2
    obtain ⟨n, h3⟩ := h3
    cases h3
    exact PySem.W.kia_tup (kitx_exc F) I.kIn he h1 e (fun z => nomatch z) fun tk => ⟨.bl b, H, I.tok tk, rfl, q⟩
end
end L3
namespace L3
open PySem PySem.Spec PyProof.Rows L2
theorem objok_there {P : Program} {w : World} {H : Hp} {h : Heap} {a : Addr} {o : HO} (x : ObjOk P w H h a o) : ∃ ob, h.get? a = some ob := by
  cases o with
  | lst xs => obtain ⟨_, its, n, _, e⟩ := x; exact ⟨_, e⟩
  | tup xs => obtain ⟨_, its, _, ob, e, _⟩ := x; exact ⟨_, e⟩
  | dK kvs => obtain ⟨_, _, vs, _, ob, es, ep, e, _⟩ := x; exact ⟨_, e⟩
  | dT kvs => obtain ⟨_, _, xs, _, ob, es, ep, e, _⟩ := x; exact ⟨_, e⟩
  | set S n => obtain ⟨ob, es, ep, t, e, _⟩ := x; exact ⟨_, e⟩
  | ins C dx fs => obtain ⟨_, _, _, e, _⟩ := x; exact ⟨_, e⟩
  | own y => exact x
  | xd fs => obtain ⟨mA, ⟨od, es, ep, e, _⟩, _⟩ := x; exact ⟨_, e⟩
  | rng lo hi => obtain ⟨t, u, v, e⟩ := x; exact ⟨_, e⟩
  | frz ob u => obtain ⟨e, _⟩ := x; exact ⟨_, e⟩
  | tbl ps => exact ⟨_, x⟩
  | met f y => exact ⟨_, x⟩
  | ext φ => exact x.2.1
def Kept (fs : List Addr) (H' : Hp) (h h1 B : Heap) : Prop := ∀ b o, h1.get? b = some o → b ∉ fs → ((∃ u, H' b = some u) ∨ ∃ o', h.get? b = some o') → B.get? b = some o
theorem fly_un {P : Program} {w : World} {fs : List Addr} {H H' : Hp} {h h1 h2 B : Heap} (u : Un fs [] H H' h h1) (hok : HOk P w H' h1) (hfr : ∀ b ∈ fs, H' b = none ∧ ∃ o, h1.get? b = some o ∧ ∀ vs, o.data ≠ .fields vs)
    (hB : Kept fs H' h h1 B) (st : B.StaysIn h2) (up : h1.UpToSlots h2) : Un fs [] H H' h h2 ∧ HOk P w H' h2 ∧ Kept fs H' h h2 B := by
  have kept : ∀ b o, h1.get? b = some o → b ∉ fs → ((∃ u, H' b = some u) ∨ ∃ o', h.get? b = some o') → h2.get? b = some o := fun b o e nf z => st _ _ (hB b o e nf z)
  have nfr : ∀ b v, H' b = some v → b ∉ fs := fun b v e z => by rw [(hfr b z).1] at e; cases e
  refine ⟨⟨fun b o q n hb hx => kept b o (u.keep b o q n hb hx) hb (.inr ⟨o, q⟩), fun b o q n hb hx => ?_, u.free, fun b o q hx => ?_, u.tups, u.frzs, u.tbls⟩, fun a o e => ?_, fun b o e nf z => ?_⟩
  · obtain ⟨sl, e⟩ := u.slot b o q n hb hx
    obtain ⟨_, o1, ho1, hd⟩ := hfr b hb
    rw [e] at ho1
    cases ho1
    obtain ⟨sl', e'⟩ := up b _ e hd
    exact ⟨sl', e'⟩
  · obtain ⟨o', e⟩ := u.there b o q hx
    by_cases hb : b ∈ fs
    · obtain ⟨_, o1, ho1, hd⟩ := hfr b hb
      obtain ⟨sl', e'⟩ := up b o1 ho1 hd
      exact ⟨_, e'⟩
    · exact ⟨o', kept b o' e hb (.inr ⟨o, q⟩)⟩
  · refine (hok a o e).stay (fun b v hb q => kept b v q ?_ (.inl ?_)) (fun _ q => q) fun _ _ q => q
    · rcases hb with rfl | hb
      · exact nfr _ _ e
      · exact nfr _ _ hb
    · rcases hb with rfl | hb
      · exact ⟨_, e⟩
      · exact ⟨_, hb⟩
  · obtain ⟨o1, e1⟩ : ∃ o1, h1.get? b = some o1 := by
      rcases z with ⟨v, e'⟩ | ⟨o', e'⟩
      · exact objok_there (hok b v e')
      · exact u.there b o' e' (by simp)
    have := kept b o1 e1 nf z
    rw [e] at this
    cases this
    exact hB b _ e1 nf z
theorem fly_track {P : Program} {w : World} {fs : List Addr} {H H' : Hp} {h h2 : Heap} {ea C : Addr} (u : Un fs [] H H' h h2) (hok : HOk P w H' h2) (n : h.get? ea = none) (n' : H' ea = none) (e : ExcAt ea C h2) :
    Un fs [] H (upd H' ea (excE ea C)) h h2 ∧ HOk P w (upd H' ea (excE ea C)) h2 := by
  have ne : ∀ b o, h.get? b = some o → b ≠ ea := fun b o q z => by rw [z, n] at q; cases q
  have nt : ∀ b v, H' b = some v → b ≠ ea := fun b v q z => by rw [z, n'] at q; cases q
  refine ⟨⟨u.keep, u.slot, fun b o q m hx => by rw [upd_ne (ne b o q)]; exact u.free b o q m hx, u.there, fun b xs q => ?_, fun b o xs q => ?_, fun b ps q => ?_⟩, fun a o q => ?_⟩
  · have := u.tups b xs q
    rw [upd_ne (nt _ _ this)]; exact this
  · have := u.frzs b o xs q
    rw [upd_ne (nt _ _ this)]; exact this
  · obtain ⟨more, this⟩ := u.tbls b ps q
    exact ⟨more, by rw [upd_ne (nt _ _ this)]; exact this⟩
  · by_cases ha : a = ea
    · subst ha
      rw [upd_same] at q
      cases q
      refine ⟨e, ?_, fun h1 h2 ⟨o, q1, q2⟩ k => ⟨o, k o q1, q2⟩⟩
      obtain ⟨o, q1, _⟩ := e
      exact ⟨o, q1⟩
    · rw [upd_ne ha] at q
      exact (hok a o q).stay (fun _ _ _ q => q) (fun b q => by rw [upd_ne (nt _ _ q)]; exact q) fun b xs q => by rw [upd_ne (nt _ _ q)]; exact q
def CXE (P : Program) (w : World) : CXT := fun outer H s E e s' => ∃ (ea t C : Addr) (B : Heap) (H' : Hp), e = .ref ea ∧ s'.os = s.os ∧ AllBare s'.gens ∧ Un (frs outer) [] H H' s.heap s'.heap ∧ HOk P w H' s'.heap ∧
  s.heap.get? ea = none ∧ H' ea = none ∧ Heap.FlyingW B outer ea (.ref C) (.ref t) s'.heap ∧ Kept (frs outer) H' s.heap s'.heap B ∧ E (.ref C) none H'
section
variable {X : Cx} {pins : List (Addr × Obj)} {σ : St} {H : Hp} {s : Shared}
theorem inv_frames (I : Inv X pins σ H s) : ∀ b ∈ X.fs, H b = none ∧ ∃ o, s.heap.get? b = some o ∧ ∀ vs, o.data ≠ .fields vs := fun b hb => by
  obtain ⟨_, o0, h0, _⟩ := I.ok.funs.mem hb
  exact ⟨I.base.free b o0 h0 (I.ok.frf b hb) fun z => I.ok.exfs b z hb, (I.funs.mem hb).2⟩
theorem inv_stack (I : Inv X pins σ H s) : ∀ b ∈ frs X.stack, H b = none ∧ ∃ o, s.heap.get? b = some o ∧ ∀ vs, o.data ≠ .fields vs := fun b hb => ⟨I.stkFree b hb, (I.stack.mem hb).2⟩
end
section
variable {P : Program} {w : World} {K : PySem.W.Frag} {mg : Str → Option Value} {base : Heap} {N : List Str} {qual : Str} {scope : Scope} {f : Addr} {cd : Value} {A : Around} {outer : List Env} {s : Shared} {H : Hp} {E : XK}
theorem raise_leaves {pins : List (Addr × Obj)} {σ : St} {H2 : Hp} {s2 : Shared} {h' : Heap} {e C : Addr} {us : List Value} (I : Inv (cxOf (CXE P w) P w K mg base N qual scope f cd A outer s H E) pins σ H2 s2) (hm : Heap.MadeExcOf s2.heap h' e (.ref C) us) (q : E (.ref C) none H2) :
    (cxOf (CXE P w) P w K mg base N qual scope f cd A outer s H E).xe (.ref e) { s2 with heap := h' } := by
  have hL : ∀ b, b ∉ frs outer → ((∃ u, H2 b = some u) ∨ ∃ o', s.heap.get? b = some o') → b ∉ frs (envOfC qual scope s.heap.objs.size f cd :: outer) := fun b nf z hb => by
    rcases List.mem_cons.mp (I.stkSub b hb) with e | hb
    · rcases z with ⟨u, z⟩ | ⟨o, z⟩
      · rw [e] at z
        rw [show H2 _ = none from I.free] at z
        cases z
      · rw [e] at z
        exact absurd (Heap.lt_size z) (Nat.lt_irrefl _)
    · exact nf hb
  refine wpAny_leaves_madeW (base := PySem.W.hideAll s2.heap (frs (envOfC qual scope s.heap.objs.size f cd :: outer))) (h := s2.heap) I.ok.frames rfl (fun b o q => PySem.W.of_hideAll _ q) (PySem.W.funFrames_hide I.stack (fun env he a hf => List.mem_filterMap.mpr ⟨env, he, hf⟩)) hm fun h3 t x1 x2 x3 x4 => ?_
  obtain ⟨un, hok, hB⟩ := fly_un (h2 := h3) (show Un (frs outer) [] H H2 s.heap s2.heap from I.base) (show HOk P w H2 s2.heap from I.hok) (inv_frames I) (fun b o e nf z => PySem.W.hideAll_get _ e (hL b nf z)) x1.1 ((Heap.UpToSlots.of_keeps hm.keeps).trans x4)
  refine ⟨e, t, C, _, H2, rfl, I.os, I.bare, un, hok, ?_, ?_, x1, hB, q⟩
  · cases z : s.heap.get? e with
    | none => rfl
    | some o =>
      obtain ⟨o', e'⟩ := I.base.there e o z (fun z => nomatch z)
      rw [hm.new] at e'; cases e'
  · cases z : H2 e with
    | none => rfl
    | some v =>
      obtain ⟨o, e'⟩ := objok_there (I.hok e v z)
      rw [hm.new] at e'; cases e'
structure ErrK (K : PySem.W.Frag) (mg : Str → Option Value) (x : Str) (C : Addr) : Prop where
  at_ : mg x = some (.ref C)
  own : PySem.W.excIn K C [.type "ValueError", .type "Exception", .type "BaseException", .type "object"] "ValueError.__new__" = true
def tRaise (E : XK) (C : Addr) (t : TA) : TS := fun _ σ H => t σ H fun vs H1 => vs.length ≤ sizeLine ∧ E (.ref C) none H1
theorem ps_raise {x : Str} {C : Addr} {e0 : Expr} {es : List Expr} {t : TA} {np cpos pos : Pos} (R : ErrK K mg x C) (hg : Gl (cxOf (CXE P w) P w K mg base N qual scope f cd A outer s H E) x) (ha : PA (cxOf (CXE P w) P w K mg base N qual scope f cd A outer s H E) (e0 :: es) t)
    (hdb : (x == ("__debug__" : Str)) = false := by decide) (he : starEach (e0 :: es) (cxOf (CXE P w) P w K mg base N qual scope f cd A outer s H E).env = (false, eval e0 (cxOf (CXE P w) P w K mg base N qual scope f cd A outer s H E).env) :: starEach es (cxOf (CXE P w) P w K mg base N qual scope f cd A outer s H E).env := by rfl)
    (hpl : (backTo cpos (starEach es (cxOf (CXE P w) P w K mg base N qual scope f cd A outer s H E).env)).any (·.1) = false := by rfl) :
    PS (cxOf (CXE P w) P w K mg base N qual scope f cd A outer s H E) (.Raise (some (.Call (.Name x np) (e0 :: es) [] cpos)) none pos) (tRaise E C t) := by
  intro pins s1 σ H1 D I h
  have hown := R.own
  unfold PySem.W.excIn at hown
  split at hown
  case h_2 => cases hown
  rename_i dd cdd sl ho
  split at hown
  case h_2 => cases hown
  rename_i C' bm k0 k1 k2 k3 nn k5 hmr hs
  simp only [Bool.and_eq_true, beq_iff_eq, Bool.not_eq_true'] at hown
  obtain ⟨⟨⟨⟨⟨rfl, rfl⟩, hdel⟩, ht⟩, hok⟩, hni⟩ := hown
  obtain ⟨nm, bs, mro, ns, qn, hd, sn, sub, ab, col, del⟩ := cdd
  dsimp only at hmr hdel hok hni
  subst hmr hdel
  have hsl : sl = #[k0, k1, k2, k3, some (.builtin "ValueError.__new__"), k5] := by
    obtain ⟨l⟩ := sl
    simp only at hs
    rw [hs]
  subst hsl
  have hC := I.ok.mod.kin _ _ ho
  have T := PySem.W.tail_of_in I.ok.mod.kin ht
  have F := PySem.F.excBase_ValueError
  refine wpAny_Raise_call_subU (C := C') (nm := nm) (q := qn) (N := ns) (bs := bs) (bm := bm) (hdct := hd) (sn := sn) (sub := sub) (ab := ab) (col := col) (dd := dd) (k0 := k0) (k1 := k1) (k2 := k2) (k3 := k3) (k5 := k5) F F.hasB F (mN := base.nsMap ns) (T.hasType F.hasBase) (I.ok.hd rfl)
    (by rw [he]; show (false || (backTo cpos (starEach es (cxOf (CXE P w) P w K mg base N qual scope f cd A outer s H E).env)).any (·.1)) = false; rw [hpl]; rfl) (PySem.W.nsMap_none_of_in I.ok.mod.kin hok hni) (ld_glob I hg R.at_ ⟨rfl, ?_⟩ hdb)
  have hpa := ha cpos pins s1 σ H1 _ I h
  rw [he] at hpa ⊢
  refine Calls.evalArgs_plain (wpAny_mono hpa (fun us s2 ⟨vs, H2, I2, rv, hl, q⟩ => ⟨rfl, ?_, I2.bk _ _ hC, (Heap.Ns.of_isNs (PySem.W.isNs_of_in I.ok.mod.kin hok)).keeps I2.bk, T.keeps I2.bk, fun h' e hm => raise_leaves I2 hm q⟩) fun _ _ y => y)
  rw [← rv.length]; exact hl
end
end L3
namespace L3
open PySem PySem.Spec PyProof.Rows L2
abbrev TX := Ends → (St → Value → Hp → Prop) → St → Hp → Prop
def Flown (X : Cx) (pins : List (Addr × Obj)) (EX : St → Value → Hp → Prop) (e : Value) (s' : Shared) : Prop :=
  ∃ (σ1 : St) (H1 : Hp) (s1 : Shared), Inv X pins σ1 H1 s1 ∧ CXE X.prog X.w X.stack H1 s1 (fun c _ H' => EX σ1 c H') e s'
def PX (X : Cx) (sts : List Stmt) (t : TX) : Prop := ∀ (pins : List (Addr × Obj)) (s : Shared) (σ : St) (H : Hp) (D : Ends) (EX : St → Value → Hp → Prop), Inv X pins σ H s → t D EX σ H →
  wpAny (model X.prog X.w) X.A (execs sts X.env) (SP X pins D) (Flown X pins EX) s
section
variable {X : Cx}
theorem ld_globA {pins : List (Addr × Obj)} {s : Shared} {σ : St} {H : Hp} {A : Around} {E : Value → Shared → Prop} {x : Str} {u : Value} {pos : Pos} {Q : Value → Shared → Prop} (I : Inv X pins σ H s) (hg : Gl X x) (hm : X.mg x = some u) (h : Q u s)
    (hdb : (x == ("__debug__" : Str)) = false := by decide) : wpAny (model X.prog X.w) A (eval (.Name x pos) X.env) Q E s :=
  Calls.Name_function_global I.ok.kind hg (Calls.loadGlobal_global (by rw [I.ok.glob]; exact I.ok.mod.glob.keeps I.bk) hm h) hdb
theorem PA.nox {es : List Expr} {t : TA} {pins : List (Addr × Obj)} {s : Shared} {σ : St} {H : Hp} {Q : List V → Hp → Prop} {E : Value → Shared → Prop} (h : PA X.nox es t) (pos : Pos) (I : Inv X pins σ H s) (q : t σ H Q) :
    wpAny (model X.prog X.w) X.A (spliced (backTo pos (starEach es X.env))) (AP X pins σ Q) E s :=
  wpAny_mono (h pos pins s σ H Q (I.wish _) q) (fun _ _ ⟨vs, H', I', r, q⟩ => ⟨vs, H', I'.unwish, r, q⟩) fun _ _ z => False.elim z
abbrev marked (X : Cx) (e : Addr) : Cx := { X with A := X.A.mark (some (.ref e)), calm := false, xe := fun _ _ => False }
theorem inv_marked {pins : List (Addr × Obj)} {σ : St} {H : Hp} {s : Shared} (I : Inv X pins σ H s) (e : Addr) : Inv (marked X e) pins σ H s :=
  ⟨⟨I.ok.mod, I.ok.kind, I.ok.glob, I.ok.blt, I.ok.above, I.ok.inj, I.ok.has, I.ok.cab, fun z => Bool.noConfusion z, I.ok.frames, I.ok.stk, I.ok.exf, I.ok.bs, I.ok.bsz, I.ok.noex, I.ok.exfs, I.ok.funs, I.ok.frf⟩, I.os, I.bare, I.base, I.loc, I.cell, I.free, I.freeC, I.pin, I.hok, I.len⟩
theorem inv_unmarked {pins : List (Addr × Obj)} {σ : St} {H : Hp} {s : Shared} {e : Addr} (ok : X.Ok) (I : Inv (marked X e) pins σ H s) : Inv X pins σ H s :=
  ⟨ok, I.os, I.bare, I.base, I.loc, I.cell, I.free, I.freeC, I.pin, I.hok, I.len⟩
theorem name_goes {pins : List (Addr × Obj)} {σ : St} {H : Hp} {s : Shared} {i : Nat} {n : Str} {pos : Pos} {A : Around} {E : Value → Shared → Prop} {Q : Unit → Shared → Prop} (I : Inv X pins σ H s) (hN : X.N.Nodup) (hi : X.N[i]? = some n) (hk : X.env.scope.names.lookup n = some .local)
    (h : ∀ s', Inv X pins (σ.set i none) H s' → Q () s') : wpAny (model X.prog X.w) A (do bindName X.env n .none; unbindBehindTheSuite X.env n pos) Q E s := by
  obtain ⟨m, hn, hl⟩ := id I.loc
  have hcls : (X.env.scope.kind == .class || (X.env.scope.kind == .module && X.env.locals != X.env.globals)) = false := by rw [I.ok.kind]; rfl
  obtain ⟨oL, _, _, hoL, _⟩ := id hn
  refine wpAny_nameGoes_keeps hk hn hcls fun h' v hn' hs => h _ ?_
  have old : ∀ b o, X.s₀.heap.get? b = some o → b ≠ X.env.locals := fun b o e => Nat.ne_of_lt (Nat.lt_of_lt_of_le (Heap.lt_size e) I.ok.above)
  refine ⟨I.ok, I.os, I.bare, ⟨fun b o e m' hb hx => (hs.2 b (old b o e)).trans (I.base.keep b o e m' hb hx), fun b o e m' hb hx => ?_, I.base.free, fun b o e hx => ?_, I.base.tups, I.base.frzs, I.base.tbls⟩, ⟨_, hn', fun j y v' e1 e2 e3 => ?_⟩, fun y c e => ?_, I.free, I.freeC, fun p hp => ?_, fun b ob e => ?_, by simpa using I.len⟩
  · obtain ⟨sl, e1⟩ := I.base.slot b o e m' hb hx
    exact ⟨sl, (hs.2 b (old b o e)).trans e1⟩
  · obtain ⟨o', e1⟩ := I.base.there b o e hx
    exact ⟨o', (hs.2 b (old b o e)).trans e1⟩
  · by_cases hj : j = i
    · subst hj
      rw [List.getElem?_set] at e2
      split at e2
      · split at e2 <;> cases e2
      · rename_i z; exact absurd rfl z
    · rw [List.getElem?_set_ne (Ne.symm hj)] at e2
      obtain ⟨u', r', q⟩ := hl j y v' e1 e2 e3
      refine ⟨u', r', ?_⟩
      rcases q with ⟨k, e⟩ | ⟨k, c, e, z⟩
      · have ne : y ≠ n := fun e => hj (nodup_ix hN e1 (e ▸ hi))
        exact .inl ⟨k, by simp [ne, e]⟩
      · exact .inr ⟨k, c, e, z.sameBut hs (I.cne y c e)⟩
  · obtain ⟨w', z⟩ := I.cell y c e
    exact ⟨w', z.sameBut hs (I.cne y c e)⟩
  · obtain ⟨e, n', ne, nf, d⟩ := I.pin p hp
    exact ⟨(hs.2 p.1 ne).trans e, n', ne, nf, d⟩
  · refine (I.hok b ob e).stay (fun c w' hc q => (hs.2 c ?_).trans q) (fun _ q => q) fun _ _ q => q
    rintro rfl
    have hf := I.free
    rcases hc with rfl | hc
    · rw [hf] at e; cases e
    · rw [hf] at hc; cases hc
def tTry (K : PySem.W.Frag) (CL : Addr) (i : Nat) (tb : TX) (ts : TS) : TS := fun D σ H => tb D (fun σ1 c H1 => PySem.W.exmOne K c (.ref CL) = some true ∧ ∀ (ea C : Addr), c = .ref C → H1 ea = none →
  ts { nx := fun σ2 H2 => D.nx (σ2.set i none) H2, rt := D.rt } (σ1.set i (some (.ref ea))) (upd H1 ea (excE ea C))) σ H
theorem ps_try {body : List Stmt} {tb : TX} {x n : Str} {CL : Addr} {i : Nat} {b0 : Stmt} {suite : List Stmt} {ts : TS} {np hpos pos : Pos} (hb : PX X body tb) (hg : Gl X x) (hm : X.mg x = some (.ref CL)) (hN : X.N.Nodup) (hi : X.N[i]? = some n) (hk : X.env.scope.names.lookup n = some .local)
    (hst : X.stack = X.env :: X.outer) (hfr : X.env.frame = some X.env.locals) (hs : ∀ e, PSs (marked X e) (b0 :: suite) ts) (hdb : (x == ("__debug__" : Str)) = false := by decide) :
    PS X (.Try body [.ExceptHandler (some (.Name x np)) (some n) (b0 :: suite) hpos] [] [] pos) (tTry X.K CL i tb ts) := by
  intro pins s σ H D I h
  refine wpAny_Try_except (wpAny_mono (hb pins s σ H D _ I h) (fun fl s1 q => ?_) fun e s1 q => ?_)
  · cases fl with
    | next => exact wpAny_execs_nil q
    | ret u => exact q
    | brk => exact q
    | cont => exact q
  obtain ⟨σ1, H1, s0, I1, ea, t, C, B, H', rfl, os, bare, un, hok, new, fre, fly, hB, hmat, hq⟩ := q
  have Ia : Inv X pins σ1 H' s1 := I1.call' os un hok bare (fun b z => absurd z (by simp))
  have hA : X.A.frames = some (X.env :: X.outer) := by rw [← hst]; exact I.ok.frames
  have land : ∀ h2, B.StaysIn h2 → s1.heap.UpToSlots h2 → Un (frs X.stack) [] H1 H' s0.heap h2 ∧ HOk X.prog X.w H' h2 ∧ Kept (frs X.stack) H' s0.heap h2 B := fun h2 z1 z2 => fly_un un hok (inv_stack Ia) hB z1 z2
  rw [hst] at fly
  refine wpAny_looks_onW hA hfr fly fun h4 held4 up4 => ?_
  refine wpAny_landsW held4 fun h5 fly5 up5 => ?_
  have up15 := up4.trans up5
  obtain ⟨un5, hok5, _⟩ := land h5 fly5.1 up15
  have I5 : Inv X pins σ1 H' { s1 with heap := h5 } := I1.call' (s' := { s1 with heap := h5 }) os un5 hok5 bare (fun b z => absurd z (by simp))
  refine wpAny_handleBy_cons (codeAny_handlers_test (ld_globA I5 hg hm ?_ hdb)) (by intro q; cases q)
  refine (PySem.W.exm_one I5.kIn (exc_ty fly5.there) hmat).here ?_
  refine codeAny_handlers_suite_as ?_
  refine lands_againW fly5 fun h6 fly6 up6 => ?_
  obtain ⟨un6, hok6, _⟩ := land h6 fly6.1 (up15.trans up6)
  obtain ⟨un7, hok7⟩ := fly_track un6 hok6 new fre fly6.there
  have I7 : Inv X pins σ1 (upd H' ea (excE ea C)) { s1 with heap := h6 } := I1.call' (s' := { s1 with heap := h6 }) os un7 hok7 bare (fun b z => absurd z (by simp))
  refine store_ok (v := .ref ea) I7 hN hi (.inl hk) rfl (fun s8 I8 => ?_) (.inr hk)
  refine wpAny_mono (hs ea pins s8 _ _ _ (inv_marked I8 ea) (hq ea C rfl fre)) (fun fl s9 q9 => ?_) fun _ _ z => False.elim z
  cases fl with
  | next =>
    obtain ⟨σ', H9, I9, q9⟩ := q9
    exact name_goes (inv_unmarked I8.ok I9) hN hi hk fun s' I' => ⟨_, _, I', q9⟩
  | ret u =>
    obtain ⟨v, σ', H9, I9, r9, q9⟩ := q9
    exact name_goes (inv_unmarked I8.ok I9) hN hi hk fun s' I' => ⟨v, _, _, I', r9, q9⟩
  | brk =>
    obtain ⟨_, _, _, q9⟩ := q9
    exact False.elim q9
  | cont =>
    obtain ⟨_, _, _, q9⟩ := q9
    exact False.elim q9
end
end L3
namespace L3
open PySem PySem.Spec PyProof.Rows L2
section
variable {X : Cx}
end
end L3
namespace L3
open PySem PySem.Spec PyProof.Rows L2
theorem bt_ValueError : bootBuiltins "ValueError" = some (.type "ValueError") := by decide +kernel
theorem Fd.calE {P : Program} {w : World} {K : PySem.W.Frag} {mg : Str → Option Value} {base : Heap} {x : Str} {st : Stmt} {f : Addr} {N ps : List Str} {k : Nat} {sp : Sp} (F : Fd K mg x st f) (S : FnScope N ps (defScope st))
    (hb : ∀ (kV doc pm : Value) (an : Option Addr) (cdv ct : Value) (us : List Value), us.length = ps.length → bindArgs (PySem.W.fnOf x x (defArgs st) (defBody st) (defScope st) .none kV doc pm an cdv ct) ⟨us, []⟩ = pure (ps.zip us))
    (len : ∀ vs H Q E, sp vs H Q E → vs.length = ps.length)
    (hbody : ∀ (cdv : Value) (A : Around) (outer : List Env) (s : Shared) (H : Hp) (vs : List V) (Q : VK) (E : XK), Room k (A.deeper (envOfC x (defScope st) s.heap.objs.size f cdv)) → sp vs H Q E →
      ∃ t, QSs (cxOf (CXE P w) P w K mg base N x (defScope st) f cdv A outer s H E) (defBody st) t ∧ t { nx := fun _ H' => Q .non H', rt := Q } (start N vs) H) : Cal P w K mg base (CXE P w) (k + 1) x sp := by
  obtain ⟨⟨fd, F1⟩, F2⟩ := F
  refine ⟨f, fd, ps, ?_, F2, F1.kp, F1.binds hb⟩
  obtain ⟨oc, od, kV, doc, pm, an, cdv, ct, osl, rfl, lk, hcd⟩ := F1.ex
  refine fn_of lk hcd S len fun A outer s H vs Q E hr hsp => ?_
  obtain ⟨t, p, q⟩ := hbody cdv A outer s H vs Q E hr hsp
  exact ⟨t, p.un, q⟩
section
variable {X : Cx}
theorem PS.nox {st : Stmt} {t : TS} (h : PS X.nox st t) : PS X st t := fun pins s σ H D I hw =>
  wpAny_mono (h pins s σ H D (I.wish _) hw) (fun _ _ q => q.unwish) fun _ _ z => False.elim z
theorem snox {st : Stmt} {t : TS} (h : QS X.nox st t) : QS X st t := .mk (PS.nox h.un)
theorem qcl {x : Str} {C : Addr} {pos : Pos} (hg : Gl X x) (hm : X.mg x = some (.ref C)) (hd : (x == ("__debug__" : Str)) = false := by decide) : QE X (.Name x pos) (tC (.ref C)) := .mk (pe_glob hg hm rfl hd)
theorem fIsE (K : PySem.W.Frag) (hK : X.K = K := by rfl) : RCall X (.builtin "isinstance") (rIsE K) := by subst hK; exact .mk call_isE
@[irreducible] def QX (X : Cx) (sts : List Stmt) (t : TX) : Prop := PX X sts t
theorem QX.un {sts : List Stmt} {t : TX} (h : QX X sts t) : PX X sts t := by unfold QX at h; exact h
theorem QX.mk {sts : List Stmt} {t : TX} (h : PX X sts t) : QX X sts t := by unfold QX; exact h
theorem stry {body : List Stmt} {tb : TX} {x n : Str} {CL : Addr} {i : Nat} {b0 : Stmt} {suite : List Stmt} {ts : TS} {np hpos pos : Pos} (K : PySem.W.Frag) (hb : QX X body tb) (hg : Gl X x) (hm : X.mg x = some (.ref CL)) (hN : X.N.Nodup) (hi : X.N[i]? = some n) (hk : X.env.scope.names.lookup n = some .local)
    (hst : X.stack = X.env :: X.outer) (hfr : X.env.frame = some X.env.locals) (hs : ∀ e, QSs (marked X e) (b0 :: suite) ts) (hdb : (x == ("__debug__" : Str)) = false := by decide) (hK : X.K = K := by rfl) :
    QS X (.Try body [.ExceptHandler (some (.Name x np)) (some n) (b0 :: suite) hpos] [] [] pos) (tTry K CL i tb ts) := by subst hK; exact .mk (ps_try hb.un hg hm hN hi hk hst hfr (fun e => (hs e).un) hdb)
end
section
variable {P : Program} {w : World} {K : PySem.W.Frag} {mg : Str → Option Value} {base : Heap} {N : List Str} {qual : Str} {scope : Scope} {f : Addr} {cd : Value} {A : Around} {outer : List Env} {s : Shared} {H : Hp} {E : XK}
theorem sraise {x : Str} {C : Addr} {e0 : Expr} {es : List Expr} {t : TA} {np cpos pos : Pos} (R : ErrK K mg x C) (hg : Gl (cxOf (CXE P w) P w K mg base N qual scope f cd A outer s H E) x) (ha : QA (cxOf (CXE P w) P w K mg base N qual scope f cd A outer s H E) (e0 :: es) t)
    (hdb : (x == ("__debug__" : Str)) = false := by decide) (he : starEach (e0 :: es) (cxOf (CXE P w) P w K mg base N qual scope f cd A outer s H E).env = (false, eval e0 (cxOf (CXE P w) P w K mg base N qual scope f cd A outer s H E).env) :: starEach es (cxOf (CXE P w) P w K mg base N qual scope f cd A outer s H E).env := by rfl)
    (hpl : (backTo cpos (starEach es (cxOf (CXE P w) P w K mg base N qual scope f cd A outer s H E).env)).any (·.1) = false := by rfl) :
    QS (cxOf (CXE P w) P w K mg base N qual scope f cd A outer s H E) (.Raise (some (.Call (.Name x np) (e0 :: es) [] cpos)) none pos) (tRaise E C t) := .mk (ps_raise R hg ha.un hdb he hpl)
end
end L3
namespace L3
open PySem PySem.SeqAt PySem.Spec PyProof.Rows L2
theorem vals_bls : ∀ {bs : List Bool} {us : List Value}, Vals (bs.map V.bl) us → us = bs.map Value.bool
  | [], _, .nil => rfl
  | b :: bs, _, .cons r t => by
    rw [vals_bls t]
    cases (show _ = Value.bool b from r)
    rfl
theorem cnt_bls : ∀ bs : List Bool, (bs.map Value.bool).countP (isBoolOf true) = bs.countP id
  | [] => rfl
  | b :: bs => by
    rw [List.map_cons, List.countP_cons, List.countP_cons, cnt_bls bs]
    cases b <;> rfl
theorem eq_bls {bs : List Bool} {A : Around} {s : Shared} : ∀ y, y ∈ (bs.map Value.bool).toArray → EqAt A s y (.bool true) (isBoolOf true y) := fun y hy => by
  have hy : y ∈ bs.map Value.bool := by simpa using hy
  obtain ⟨b, _, rfl⟩ := List.mem_map.mp hy
  exact EqAt.bool_bool b true
def rCntB : V → List V → Hp → VK → Prop := fun x vs H Q => ∃ (l : Addr) (bs : List Bool), x = .ref l ∧ vs = [.bl true] ∧ H l = some (.lst (bs.map V.bl)) ∧ Q (.int (bs.countP id : Nat)) H
def rIdxB : V → List V → Hp → VK → Prop := fun x vs H Q => ∃ (l : Addr) (bs : List Bool), x = .ref l ∧ vs = [.bl true] ∧ H l = some (.lst (bs.map V.bl)) ∧ true ∈ bs ∧ bs.length ≤ 1000 ∧ Q (.int (bs.idxOf true : Nat)) H
section
variable {X : Cx}
theorem mt_cntB : MtM X "list.count" rCntB := by
  intro pins s σ H x vs v us Q I rx rv h
  obtain ⟨l, bs, rfl, rfl, hH, q⟩ := h
  cases rx
  obtain ⟨u, rfl, ru⟩ := rv.one
  cases (show u = Value.bool true from ru)
  obtain ⟨z, its, n, r, hl, e⟩ := I.lstM hH
  obtain rfl := vals_bls r
  refine call_meets PySem.F.slot_list_count ⟨_, e, rfl⟩ PySem.F.entry_list_count (PySem.F.args_list_count_2 _ _) (PySem.SeqAt.list_countAt l (bs.map Value.bool).toArray n none #[] (.bool true) (isBoolOf true)) ⟨e, fun y hy => eq_bls y hy, ?_⟩
  rw [show (bs.map Value.bool).toArray.toList = bs.map Value.bool from rfl, cnt_bls]
  exact ⟨.int _, H, I.tok _, ⟨_, rfl⟩, q⟩
theorem mt_idxB : MtM X "list.index" rIdxB := by
  intro pins s σ H x vs v us Q I rx rv h
  obtain ⟨l, bs, rfl, rfl, hH, hm, hb, q⟩ := h
  cases rx
  obtain ⟨u, rfl, ru⟩ := rv.one
  cases (show u = Value.bool true from ru)
  obtain ⟨z, its, n, r, hl, e⟩ := I.lstM hH
  obtain rfl := vals_bls r
  have h4 : bs.idxOf true < bs.length := List.idxOf_lt_length_iff.mpr hm
  have h5 := PySem.SeqAt.list_indexAt l (bs.map Value.bool).toArray n none #[] (.bool true) (isBoolOf true) (bs.idxOf true) (by simpa using h4) (by omega) (by
    show isBoolOf true ((bs.map Value.bool).toArray[bs.idxOf true]'_) = true
    simp [isBoolOf]) (by
    intro j g1 g2
    show isBoolOf true ((bs.map Value.bool).toArray[j]'_) = false
    have : bs[j]'(by simpa using g1) ≠ true := fun z => by
      have := List.not_of_lt_findIdx (p := (· == true)) (xs := bs) (i := j) (by simpa [List.idxOf] using g2)
      simp [z] at this
    simp [isBoolOf, this])
  exact call_meets PySem.F.slot_list_index ⟨_, e, rfl⟩ PySem.F.entry_list_index (PySem.F.args_list_index_2 _ _) h5 ⟨e, fun y hy => eq_bls y hy, ⟨.int _, H, I.tok _, ⟨_, rfl⟩, q⟩⟩
theorem mCntB : RMt X "list.count" rCntB := .mk mt_cntB
theorem mIdxB : RMt X "list.index" rIdxB := .mk mt_idxB
end
structure RoomH (k : Nat) (A : Around) : Prop where
  dp : A.depth + 3 * k + 5 < recursionLimit
  un : A.units + 16 * k + 200 < cLine
theorem roomH {k : Nat} {A : Around} (r : L2.Room k A) (h : Option Value) : RoomH k (A.mark h) := ⟨r.dp, r.un⟩
theorem RoomH.deeper {k : Nat} {A : Around} (r : RoomH (k + 1) A) (env : Env) : RoomH k (A.deeper env) :=
  ⟨by have h := r.dp; show A.depth + 1 + 3 * k + 5 < recursionLimit; omega, by have h := r.un; show A.units + 3 + 16 * k + 200 < cLine; omega⟩
def cxH (P : Program) (w : World) (K : PySem.W.Frag) (mg : Str → Option Value) (base : Heap) (N : List Str) (qual : Str) (scope : Scope) (f : Addr) (cd : Value) (A : Around) (outer : List Env) (s : Shared) (H : Hp) : Cx :=
  { cxOf CX0 P w K mg base N qual scope f cd A outer s H E0 with calm := false, xe := fun _ _ => False }
theorem inv_recast {X : Cx} {pins : List (Addr × Obj)} {σ : St} {H : Hp} {s : Shared} (I : Inv X pins σ H s) (A : Around) (hf : A.frames = some X.stack) (xe : Value → Shared → Prop) : Inv { X with A := A, calm := false, xe := xe } pins σ H s :=
  ⟨⟨I.ok.mod, I.ok.kind, I.ok.glob, I.ok.blt, I.ok.above, I.ok.inj, I.ok.has, I.ok.cab, fun z => Bool.noConfusion z, hf, I.ok.stk, I.ok.exf, I.ok.bs, I.ok.bsz, I.ok.noex, I.ok.exfs, I.ok.funs, I.ok.frf⟩, I.os, I.bare, I.base, I.loc, I.cell, I.free, I.freeC, I.pin, I.hok, I.len⟩
structure FnOkH (P : Program) (w : World) (K : PySem.W.Frag) (mg : Str → Option Value) (base : Heap) (k : Nat) (f : Addr) (fd : FuncData) (ps : List Str) (sp : Sp) : Prop where
  len : ∀ vs H Q E, sp vs H Q E → vs.length = ps.length
  run : ∀ (A : Around) (outer : List Env) (s : Shared) (H : Hp) (args : Args) (us : List Value) (vs : List V) (Q : VK), RoomH k A → Env0 P w K mg base A outer s H → BindsTo s fd args (ps.zip us) → Vals vs us → sp vs H Q E0 →
    codeAny (model P w) A (.call (.ref f) args) (CR CX0 outer P w H s Q E0) s
def CalH (P : Program) (w : World) (K : PySem.W.Frag) (mg : Str → Option Value) (base : Heap) (k : Nat) (x : Str) (sp : Sp) : Prop :=
  ∃ f fd ps, FnOkH P w K mg base k f fd ps sp ∧ mg x = some (.ref f) ∧ PySem.W.keepIn K (.ref f) = true ∧ Binds K fd ps []
theorem Fd.calH {P : Program} {w : World} {K : PySem.W.Frag} {mg : Str → Option Value} {base : Heap} {x : Str} {st : Stmt} {f : Addr} {N ps : List Str} {k : Nat} {sp : Sp} (F : Fd K mg x st f) (S : FnScope N ps (defScope st))
    (hb : ∀ (kV doc pm : Value) (an : Option Addr) (cdv ct : Value) (us : List Value), us.length = ps.length → bindArgs (PySem.W.fnOf x x (defArgs st) (defBody st) (defScope st) .none kV doc pm an cdv ct) ⟨us, []⟩ = pure (ps.zip us))
    (len : ∀ vs H Q E, sp vs H Q E → vs.length = ps.length)
    (hbody : ∀ (cdv : Value) (A : Around) (outer : List Env) (s : Shared) (H : Hp) (vs : List V) (Q : VK) (E : XK), RoomH k (A.deeper (envOfC x (defScope st) s.heap.objs.size f cdv)) → sp vs H Q E →
      ∃ t, QSs (cxH P w K mg base N x (defScope st) f cdv A outer s H) (defBody st) t ∧ t { nx := fun _ H' => Q .non H', rt := Q } (start N vs) H) : CalH P w K mg base (k + 1) x sp := by
  obtain ⟨⟨fd, F1⟩, F2⟩ := F
  refine ⟨f, fd, ps, ⟨len, fun A outer s H args us vs Q hr e0 hbi r hsp => ?_⟩, F2, F1.kp, F1.binds hb⟩
  obtain ⟨oc, od, kV, doc, pm, an, cdv, ct, osl, rfl, lk, hcd⟩ := F1.ex
  have hl := len _ _ _ _ hsp
  have kx : K.In s.heap := e0.mod.kin.keeps fun b o e => (e0.bs b o e).1
  have nl : s.heap.NoLimit := e0.mod.nolimit.keeps fun b o e => (e0.bs b o e).1
  have kinds : ∀ y ∈ ps.zip us, (defScope st).names.lookup y.1 = some .local ∨ ((defScope st).names.lookup y.1 = some .cell ∧ ((cellsFrom (s.heap.objs.size + 1) (defScope st).names []).lookup y.1).isSome = true) := fun ⟨n, v⟩ hy =>
    (S.par n (List.of_mem_zip hy).1).elim .inl fun q => .inr ⟨q, PySem.W.cellsFrom_some _ _ _ (.inl q)⟩
  refine codeAny_call_function (by have := hr.dp; omega) (kx _ _ lk) rfl S.co S.gen rfl (PySem.W.codeRec_of kx hcd) (hbi _ _ _ _ ?_)
  refine wpAny_newFunctionEnv_cells S.kind kinds fun env he s1 x1 => ?_
  subst he
  refine ⟨nl.keeps x1.toInCall.keep, codeAny_func ?_⟩
  obtain ⟨t, ht, hq⟩ := hbody cdv A outer s H vs Q E0 (hr.deeper _) hsp
  have e1 : Env0 P w K mg base { A with handled := Option.none } outer s H := ⟨e0.frames, e0.mod, e0.bs, e0.bsz, e0.funs, e0.frf, e0.hok, e0.bare⟩
  have I0 := inv_start (CX := CX0) (E := E0) (A := { A with handled := Option.none }) (qual := x) (f := f) (cd := cdv) S rfl e1 hl r x1
  have I : Inv (cxH P w K mg base N x (defScope st) f cdv A outer s H) [] (start N vs) H s1 := inv_recast I0 (A.deeper (envOfC x (defScope st) s.heap.objs.size f cdv)) (Around.frames_deeper e0.frames) _
  refine wpAny_mono (ht.un [] s1 (start N vs) H _ I hq) (fun fl s' hs => ?_) fun _ _ z => False.elim z
  have fin : ∀ {σ' : St} {H' : Hp} {v : V} {u : Value}, Inv (cxH P w K mg base N x (defScope st) f cdv A outer s H) [] σ' H' s' → RelV v u → Q v H' → CE outer P w H s Q u s' :=
    fun {σ' H' v u} J rv q => ⟨v, H', J.os, J.bare, J.base, J.hok, rv, q⟩
  cases fl with
  | ret u =>
    obtain ⟨v, σ', H', J, rv, q⟩ := hs
    exact fin J rv q
  | next =>
    obtain ⟨σ', H', J, q⟩ := hs
    exact fin (v := V.non) (u := Value.none) J rfl q
  | brk => obtain ⟨_, _, _, q⟩ := hs; exact False.elim q
  | cont => obtain ⟨_, _, _, q⟩ := hs; exact False.elim q
section
variable {X : Cx}
theorem qFH {k : Nat} {x : Str} {sp : Sp} {e : Expr} {es : List Expr} {t : TA} {p pos : Pos} (C : CalH X.prog X.w X.K X.mg X.base k x sp) (hr : RoomH k X.A) (hg : Gl X x) (ha : QA X (e :: es) t)
    (hdb : (x == ("__debug__" : Str)) = false := by decide) (he : starEach (e :: es) X.env = (false, eval e X.env) :: starEach es X.env := by rfl) (hpl : (backTo pos (starEach es X.env)).any (·.1) = false := by rfl) :
    QE X (.Call (.Name x p) (e :: es) [] pos) (tCallF sp E0 t) := by
  refine .mk fun pins s σ H Q I h => ?_
  obtain ⟨f, fd, ps, F, hm, hk, hb⟩ := C
  refine wpAny_Call_Name_kw (ld_globA I hg hm ?_ hdb)
  refine PySem.W.callWith_K (h₀ := X.base) I.ok.mod.kin hk (thn (ha.un pos pins s σ H _ I h) fun us s1 ⟨vs, H1, I1, r, q⟩ => ⟨I1.kIn, ?_⟩) he hpl
  have hl : us.length = ps.length := by rw [← r.length]; exact F.len _ _ _ _ q
  have hbb := hb s1 us I1.kIn (by rw [List.append_nil]; exact hl)
  rw [List.append_nil] at hbb
  refine wpAny_call (codeAny_mono (F.run X.A X.stack s1 H1 ⟨us, []⟩ us vs _ hr I1.env0 hbb r q) fun r s' hq => ?_)
  cases r with
  | error e => exact False.elim hq
  | ok fl =>
    cases fl with
    | ret u => exact I1.after hq
    | next => exact False.elim hq
    | brk => exact False.elim hq
    | cont => exact False.elim hq
def xRet (sp : Sp) (t : TA) : TX := fun D EX σ H => t σ H fun vs H1 => sp vs H1 (fun v H2 => D.rt v H2) (fun c _ H2 => EX σ c H2)
theorem xret {k : Nat} {x : Str} {sp : Sp} {e : Expr} {es : List Expr} {t : TA} {p pos rp : Pos} (C : Cal X.prog X.w X.K X.mg X.base (CXE X.prog X.w) k x sp) (hr : Room k X.A) (hg : Gl X x) (ha : QA X.nox (e :: es) t)
    (hdb : (x == ("__debug__" : Str)) = false := by decide) (he : starEach (e :: es) X.env = (false, eval e X.env) :: starEach es X.env := by rfl) (hpl : (backTo pos (starEach es X.env)).any (·.1) = false := by rfl) :
    QX X [.Return (some (.Call (.Name x p) (e :: es) [] pos)) rp] (xRet sp t) := by
  refine .mk fun pins s σ H D EX I h => ?_
  obtain ⟨f, fd, ps, F, hm, hk, hb⟩ := C
  refine wpAny_execs_cons (wpAny_Return_some ?_)
  refine wpAny_Call_Name_kw (ld_globA I hg hm ?_ hdb)
  refine PySem.W.callWith_K (h₀ := X.base) I.ok.mod.kin hk (wpAny_mono (PA.nox ha.un pos I h) (fun us s1 ⟨vs, H1, I1, r, q⟩ => ⟨I1.kIn, ?_⟩) fun _ _ z => z) he hpl
  have hl : us.length = ps.length := by rw [← r.length]; exact F.len _ _ _ _ q
  have hbb := hb s1 us I1.kIn (by rw [List.append_nil]; exact hl)
  rw [List.append_nil] at hbb
  refine wpAny_call (codeAny_mono (F.run X.A X.stack s1 H1 ⟨us, []⟩ us vs _ _ hr I1.env0 hbb r q) fun r s' hq => ?_)
  cases r with
  | error e => exact ⟨σ, H1, s1, I1, hq⟩
  | ok fl =>
    cases fl with
    | ret u =>
      obtain ⟨v, H', I', r', q'⟩ := I1.after hq
      exact ⟨v, σ, H', I', r', q'⟩
    | next => exact False.elim hq
    | brk => exact False.elim hq
    | cont => exact False.elim hq
theorem rNeqU {k : Nat} (hr : RoomH k X.A) : ROp X (compareOp .NotEq) (rNeG 150) := .mk (op_neG (by have := hr.un; omega))
end
end L3
namespace L3
open PySem PySem.Spec PyProof.Rows L2
theorem met_nodup (val : Nat → Int) : ∀ i, (firstMet val i).Nodup
  | 0 => by rw [firstMet_zero]; exact List.nodup_nil
  | i + 1 => by
    rw [firstMet_succ]
    have ih := met_nodup val i
    unfold step_dedup
    split
    · exact ih
    · rename_i h
      refine List.nodup_append.mpr ⟨ih, by simp, fun a ha b hb => ?_⟩
      rw [List.mem_singleton] at hb
      intro e
      apply h
      rw [List.any_eq_true]
      exact ⟨a, ha, by rw [e, hb]; simp⟩
theorem range_getD (ns : List Int) : (List.range ns.length).map (fun i => ns.getD i 0) = ns := by
  apply List.ext_getElem
  · simp
  · intro i h1 h2
    rw [List.getElem_map, List.getElem_range, List.getD_eq_getElem?_getD, List.getElem?_eq_getElem h2]; rfl
section
variable {X : Cx}
end
end L3
namespace L3
open PySem PySem.Spec PyProof.Rows L2
theorem sub_len : ∀ {xs P : List Int}, xs.Nodup → (∀ x ∈ xs, x ∈ P) → xs.length ≤ P.length
  | [], _, _, _ => Nat.zero_le _
  | x :: xs, P, hn, hs => by
    have hx := hs x (List.mem_cons_self ..)
    have hn' := List.nodup_cons.mp hn
    have h1 := sub_len (xs := xs) (P := P.erase x) hn'.2 fun y hy => (List.mem_erase_of_ne (fun e => hn'.1 (by rw [← e]; exact hy))).mpr (hs y (List.mem_cons_of_mem _ hy))
    rw [List.length_erase_of_mem hx] at h1
    have := List.length_pos_of_mem hx
    rw [List.length_cons]; omega
theorem sub_full : ∀ {ns l : List Int}, l.Nodup → (∀ x ∈ l, x ∈ ns) → l.length = ns.length → ns.Nodup
  | [], _, _, _, _ => List.nodup_nil
  | x :: ns, l, hn, hs, hl => by
    rw [List.length_cons] at hl
    have hx : x ∉ ns := fun z => by
      have := sub_len (P := ns) hn fun y hy => by
        rcases List.mem_cons.mp (hs y hy) with e | e
        · rw [e]; exact z
        · exact e
      omega
    have hxl : x ∈ l := Classical.byContradiction fun z => by
      have := sub_len (P := ns) hn fun y hy => by
        rcases List.mem_cons.mp (hs y hy) with e | e
        · exact absurd (by rw [← e]; exact hy) z
        · exact e
      omega
    refine List.nodup_cons.mpr ⟨hx, sub_full (l := l.erase x) (hn.erase x) (fun y hy => ?_) ?_⟩
    · have h1 := (List.Nodup.mem_erase_iff hn).mp hy
      exact (List.mem_cons.mp (hs y h1.2)).resolve_left h1.1
    · rw [List.length_erase_of_mem hxl]; omega
theorem met_all (ns : List Int) : (firstMet (fun i => ns.getD i 0) ns.length).length ≤ ns.length ∧ ((firstMet (fun i => ns.getD i 0) ns.length).length = ns.length ↔ ns.Nodup) := by
  have hm : ∀ k, k ∈ firstMet (fun i => ns.getD i 0) ns.length ↔ k ∈ ns := fun k => by
    have := firstMet_any (fun i => ns.getD i 0) ns.length k
    rw [range_getD] at this
    have key : ∀ l : List Int, l.any (· == k) = true ↔ k ∈ l := fun l => by
      rw [List.any_eq_true]
      constructor
      · rintro ⟨x, hx, e⟩
        rw [← eq_of_beq e]; exact hx
      · intro h; exact ⟨k, h, by simp⟩
    rw [← key, ← key, this]
  have hn := met_nodup (fun i => ns.getD i 0) ns.length
  generalize firstMet (fun i => ns.getD i 0) ns.length = l at hm hn
  have h1 := sub_len (P := ns) hn fun y hy => (hm y).mp hy
  refine ⟨h1, fun h => sub_full hn (fun y hy => (hm y).mp hy) h, fun h => ?_⟩
  have := sub_len (P := l) h fun y hy => (hm y).mpr hy
  omega
section
variable {X : Cx}
def tLenSetX (K : PySem.W.Frag) (ta : TA) : TE := fun σ H Q => ta σ H fun vs H1 => ∃ (a : Addr) (ns : List Int), vs = [.ref a] ∧ SqL K H1 a (ns.map V.int) ∧ ns.length ≤ 1000 ∧ ∀ m : Nat, m ≤ ns.length → (m = ns.length ↔ ns.Nodup) → Q (.int (m : Int)) H1
theorem pe_lenSetX {e : Expr} {ta : TA} {p1 p2 pos1 pos : Pos} (hc : X.calm = true) (hg : Gl X "len") (hm : X.mg "len" = none) (hg2 : Gl X "set") (hm2 : X.mg "set" = none) (ha : PA X [e] ta) (hs : starEach [e] X.env = [(false, eval e X.env)]) :
    PE X (.Call (.Name "len" p1) [.Call (.Name "set" p2) [e] [] pos1] [] pos) (tLenSetX X.K ta) := by
  intro pins s σ H Q I h
  refine Call_ (ld_blt I hg hm bt_len (Calls.callWith_builtin rfl (Calls.evalArgs_plain (Calls.spliced_cons ?_))))
  refine Call_ (ld_blt I hg2 hm2 bt_set (PyProof.Rows.callWith_type1 (thn (ha pos1 pins s σ H _ I h) fun us s1 ⟨vs, H1, I1, r1, q1⟩ => ?_) hs rfl))
  obtain ⟨a, ns, e, hL, hlen, q⟩ := q1
  subst e
  obtain ⟨u, rfl, ru⟩ := vals1 r1
  cases ru
  obtain ⟨its, r, hl, hz⟩ := I1.list hL
  have hi : IntsAre its.toArray.toList ns := intsAre_of r
  have hl2 : its.length = ns.length := by have := r.length; rw [List.length_map] at this; exact this.symm
  have hl3 : its.toArray.size = ns.length := by rw [List.size_toArray, hl2]
  refine call_set_list (I1.ok.hd hc) hl.isList hi (by rw [hl3]; unfold scanBound; omega) fun h' tk hS hk => ?_
  rw [hl3] at hS
  refine Calls.spliced_nil ?_
  obtain ⟨o, es, ep, t, ho, hex, hd, _, _, hsc, hf, hn⟩ := hS
  have hm1 := met_all ns
  rw [← hn] at hm1
  refine call_len_set ho hex hd hf (by unfold scanBound at hsc; omega) ?_
  refine ⟨.int (es.size : Int), H1, I1.kept (t' := tk + 1 + 1) (fun b o e => hk b o (Heap.lt_size e) e), ⟨_, rfl⟩, q _ hm1.1 hm1.2⟩
theorem qLenSetX {e : Expr} {ta : TA} {p1 p2 pos1 pos : Pos} (K : PySem.W.Frag) (hg : Gl X "len") (hm : X.mg "len" = none) (hg2 : Gl X "set") (hm2 : X.mg "set" = none) (ha : QA X [e] ta) (h : notStar e = true := by rfl) (hc : X.calm = true := by rfl) (hK : X.K = K := by rfl) :
    QE X (.Call (.Name "len" p1) [.Call (.Name "set" p2) [e] [] pos1] [] pos) (tLenSetX K ta) := by
  subst hK
  exact .mk (pe_lenSetX hc hg hm hg2 hm2 ha.un (by rw [star_cons h, star_nil]))
end
end L3
namespace L3
open PySem L2
theorem join {G : Prop} {N : L2.St → Hp → Prop} (M : L2.St → Hp → Prop) (h2 : (∀ σ H, M σ H → N σ H) → G) (h1 : ∀ σ H, M σ H → N σ H) : G := h2 h1
end L3
namespace L3
open PySem L2
def unI : V → Int
  | .int i => i
  | _ => 0
theorem Pgs.set {H : Hp} {y : Int} : ∀ {bs : List Addr} {ps : List (List Int)} {j : Nat} {b : Addr} {q : List Int}, Pgs H bs ps → bs.Nodup → bs[j]? = some b → ps[j]? = some q → Pgs (upd H b (.lst (q.map V.int ++ [.int y]))) bs (ps.set j (q ++ [y]))
  | [], [], _, _, _, _, _, e, _ => by simp at e
  | c :: bs, p :: ps, 0, b, q, h, hn, e, e2 => by
    simp at e e2
    subst e e2
    rw [List.nodup_cons] at hn
    refine ⟨by rw [upd_same, List.map_append]; rfl, h.2.stay fun d hd => upd_ne (fun z => hn.1 (z ▸ hd))⟩
  | c :: bs, p :: ps, j + 1, b, q, h, hn, e, e2 => by
    rw [List.nodup_cons] at hn
    have e' : bs[j]? = some b := by simpa using e
    have hcb : c ≠ b := fun z => hn.1 (z ▸ List.mem_of_getElem? e')
    exact ⟨by rw [upd_ne hcb]; exact h.1, Pgs.set h.2 hn.2 e' (by simpa using e2)⟩
  | [], _ :: _, _, _, _, h, _, _, _ => h.elim
  | _ :: _, [], _, _, _, h, _, _, _ => h.elim
end L3
namespace L3
open PySem L2
def ddS (acc : List Int) (n : Int) : List Int := if n ∈ acc then acc else acc ++ [n]
def dd (ws : List Int) : List Int := ws.foldl ddS []
end L3
namespace K02
open PySem L2 L3
def top (i : Nat) : Stmt := PySem.Challenge.pw_leafpages_k02_trees_made.main.body.getD i (.Pass ⟨0, 0, 0, 0⟩)
abbrev s_keys_of : Stmt := top 11
theorem sc_keys_of : FnScope ["tree"] ["tree"] (defScope s_keys_of) := ⟨rfl, rfl, rfl, by decide +kernel, rfl, by decide +kernel, by decide +kernel⟩
abbrev s_side_towards : Stmt := top 12
theorem sc_side_towards : FnScope ["tree", "key"] ["tree", "key"] (defScope s_side_towards) := ⟨rfl, rfl, rfl, by decide +kernel, rfl, by decide +kernel, by decide +kernel⟩
abbrev s_knot_at : Stmt := top 13
theorem sc_knot_at : FnScope ["tree", "key"] ["tree", "key"] (defScope s_knot_at) := ⟨rfl, rfl, rfl, by decide +kernel, rfl, by decide +kernel, by decide +kernel⟩
abbrev s_with_key : Stmt := top 14
theorem sc_with_key : FnScope ["tree", "key"] ["tree", "key"] (defScope s_with_key) := ⟨rfl, rfl, rfl, by decide +kernel, rfl, by decide +kernel, by decide +kernel⟩
abbrev s_put : Stmt := top 15
theorem sc_put : FnScope ["tree", "key"] ["tree", "key"] (defScope s_put) := ⟨rfl, rfl, rfl, by decide +kernel, rfl, by decide +kernel, by decide +kernel⟩
abbrev s_tree_of : Stmt := top 16
theorem sc_tree_of : FnScope ["keys", "tree", "key"] ["keys"] (defScope s_tree_of) := ⟨rfl, rfl, rfl, by decide +kernel, rfl, by decide +kernel, by decide +kernel⟩
abbrev s_law_pen : Stmt := top 18
theorem sc_law_pen : FnScope ["_law_script", "_law_k", "_law_cell"] ["_law_script", "_law_k"] (defScope s_law_pen) := ⟨rfl, rfl, rfl, by decide +kernel, rfl, by decide +kernel, by decide +kernel⟩
abbrev s_law_take : Stmt := top 19
theorem sc_law_take : FnScope ["_law_pen_here", "_law_many", "_law_digit", "_law_one"] ["_law_pen_here", "_law_many"] (defScope s_law_take) := ⟨rfl, rfl, rfl, by decide +kernel, rfl, by decide +kernel, by decide +kernel⟩
abbrev s_law_middles : Stmt := top 20
theorem sc_law_middles : FnScope ["_law_low", "_law_high", "_law_middle", "_law_one", "_law_other"] ["_law_low", "_law_high"] (defScope s_law_middles) := ⟨rfl, rfl, rfl, by decide +kernel, rfl, by decide +kernel, by decide +kernel⟩
abbrev s_law_ranks : Stmt := top 21
theorem sc_law_ranks : FnScope ["_law_pen_here", "_law_many", "_law_shape", "_law_ranks_here", "_law_k"] ["_law_pen_here", "_law_many"] (defScope s_law_ranks) := ⟨rfl, rfl, rfl, by decide +kernel, rfl, by decide +kernel, by decide +kernel⟩
abbrev s_law_keys : Stmt := top 22
theorem sc_law_keys : FnScope ["_law_pen_here", "_law_most", "_law_many", "_law_gap", "_law_first", "_law_bent"] ["_law_pen_here", "_law_most"] (defScope s_law_keys) := ⟨rfl, rfl, rfl, by decide +kernel, rfl, by decide +kernel, by decide +kernel⟩
abbrev s_law_grown : Stmt := top 23
theorem sc_law_grown : FnScope ["_law_tree_here", "_law_key", "_law_left", "_law_here", "_law_right"] ["_law_tree_here", "_law_key"] (defScope s_law_grown) := ⟨rfl, rfl, rfl, by decide +kernel, rfl, by decide +kernel, by decide +kernel⟩
abbrev s_law_tree : Stmt := top 24
theorem sc_law_tree : FnScope ["_law_keys_here", "_law_tree_here", "_law_key"] ["_law_keys_here"] (defScope s_law_tree) := ⟨rfl, rfl, rfl, by decide +kernel, rfl, by decide +kernel, by decide +kernel⟩
abbrev s_law_kind : Stmt := top 25
theorem sc_law_kind : FnScope ["_law_error", "_law_flags"] ["_law_error"] (defScope s_law_kind) := ⟨rfl, rfl, rfl, by decide +kernel, rfl, by decide +kernel, by decide +kernel⟩
abbrev s_law_made : Stmt := top 26
theorem sc_law_made : FnScope ["_law_keys_here", "_law_error"] ["_law_keys_here"] (defScope s_law_made) := ⟨rfl, rfl, rfl, by decide +kernel, rfl, by decide +kernel, by decide +kernel⟩
abbrev s_law_put : Stmt := top 27
theorem sc_law_put : FnScope ["_law_tree_here", "_law_key", "_law_error"] ["_law_tree_here", "_law_key"] (defScope s_law_put) := ⟨rfl, rfl, rfl, by decide +kernel, rfl, by decide +kernel, by decide +kernel⟩
abbrev s_law_plain : Stmt := top 28
theorem sc_law_plain : FnScope ["_law_thing"] ["_law_thing"] (defScope s_law_plain) := ⟨rfl, rfl, rfl, by decide +kernel, rfl, by decide +kernel, by decide +kernel⟩
abbrev s_law_told : Stmt := top 29
theorem sc_law_told : FnScope ["_law_tree_here", "_law_due", "_law_some"] ["_law_tree_here", "_law_due"] (defScope s_law_told) := ⟨rfl, rfl, rfl, by decide +kernel, rfl, by decide +kernel, by decide +kernel⟩
abbrev s_law : Stmt := top 30
theorem sc_law : FnScope ["_law_script", "_law_pen_here", "_law_keys_here", "_law_due", "_law_handed", "_law_tree_here", "_law_grown_one", "_law_key", "_law_more", "_law_some", "_law_at", "_law_spot", "_law_twice", "_law_ranks_here", "_law_great"] ["_law_script"] (defScope s_law) := ⟨rfl, rfl, rfl, by decide +kernel, rfl, by decide +kernel, by decide +kernel⟩
structure Tx (K : PySem.W.Frag) (mg : Str → Option Value) : Prop where
  b_ValueError : mg "ValueError" = none
  b_abs : mg "abs" = none
  b_bool : mg "bool" = none
  b_int : mg "int" = none
  b_isinstance : mg "isinstance" = none
  b_len : mg "len" = none
  b_list : mg "list" = none
  b_range : mg "range" = none
  b_set : mg "set" = none
  b_sorted : mg "sorted" = none
  b_tuple : mg "tuple" = none
  g_MOST_KEYS : ∃ tk, mg "MOST_KEYS" = some (.int 60 tk)
def spPen (K : PySem.W.Frag) : Sp := fun vs H Q _ => ∃ (a : Addr) (k : Int) (ns : List Int), vs = [.ref a, .int k] ∧ SqL K H a (ns.map V.int) ∧ ns.length ≤ 63 ∧ 0 ≤ k ∧ k ≤ 63 ∧ ∀ p H', H p = none → Same H H' → PenAt H' p → Q (.ref p) H'
def spTake : Sp := fun vs H Q _ => ∃ (p : Addr) (c : Int), vs = [.ref p, .int c] ∧ PenAt H p ∧ 0 < c ∧ c < 10 ^ 100 ∧ ∀ r H', 0 ≤ r → r < c → PenAt H' p → Same (rm p H) H' → Q (.int r) H'
def spMid (n : Nat) : Sp := fun vs H Q _ => ∃ (lo hi : Int), vs = [.int lo, .int hi] ∧ lo ≤ hi ∧ hi - lo < n ∧ n ≤ 100 ∧ -1000 ≤ lo ∧ hi ≤ 1000 ∧ ∀ (r : Addr) (H' : Hp) (xs : List Int), H r = none → Same H H' → H' r = some (.lst (xs.map V.int)) → Mids lo hi xs → Q (.ref r) H'
def spRanks : Sp := fun vs H Q _ => ∃ (p : Addr) (n : Int), vs = [.ref p, .int n] ∧ PenAt H p ∧ 0 ≤ n ∧ n ≤ 61 ∧ ∀ (r : Addr) (H' : Hp) (xs : List Int), H r = none → Same (rm p H) H' → PenAt H' p → H' r = some (.lst (xs.map V.int)) → Ranks n.toNat xs → Q (.ref r) H'
def spKeys : Sp := fun vs H Q _ => ∃ (p : Addr) (n : Int), vs = [.ref p, .int n] ∧ PenAt H p ∧ 0 ≤ n ∧ n ≤ 60 ∧ ∀ (r : Addr) (H' : Hp) (xs : List Int), H r = none → Same (rm p H) H' → PenAt H' p → H' r = some (.lst (xs.map V.int)) → xs.Nodup → xs.length ≤ 60 → (∀ x ∈ xs, -(10 ^ 61) < x ∧ x < 10 ^ 61) → Q (.ref r) H'
def spGrown (n : Nat) : Sp := fun vs H Q _ => ∃ (v : V) (k : Int) (t : Tr), vs = [v, .int k] ∧ Rep H v (Tr.d t) ∧ t.ht < n ∧ ∀ (r : V) (H' : Hp), Same H H' → Rep H' r (t.ins k).d → Q r H'
def spTree : Sp := fun vs H Q _ => ∃ (a : Addr) (xs : List Int), vs = [.ref a] ∧ H a = some (.lst (xs.map V.int)) ∧ xs.length ≤ 61 ∧ ∀ (r : V) (H' : Hp), Same H H' → Rep H' r (Tr.build xs).d → Q r H'
section
variable {P : Program} {w : World} {K : PySem.W.Frag} {mg : Str → Option Value} {base : Heap}
theorem ok_take {f : Addr} (F : Fd K mg "_law_take" s_law_take f) (T : Tx K mg) : Cal P w K mg base CX0 1 "_law_take" spTake := by
  refine F.cal sc_law_take (fun _ _ _ _ _ _ us hl => match us, hl with | [_, _], _ => rfl) (fun vs H Q E h => ?_) (fun cdv A outer s H vs Q E hr h => ?_)
  · obtain ⟨p, c, rfl, _⟩ := h; rfl
  · obtain ⟨p, c, rfl, ⟨m, n, hp⟩, hc, hc2, k⟩ := h
    refine ⟨_, (bcons (sif (tcmp (rEqq hr) (qix (xIx K) (qv 0) qint (fun _ _ => rfl)) qint (nomark _)) (bcons (sset (i := 2) sc_law_take.nd rfl (by first | exact Or.inl rfl | exact Or.inr rfl) (qop rMod (qix (xIx K) (qv 0) qint (fun _ _ => rfl)) (qv 1)))
        (bcons (sasg (qop rDivB (qix (xIx K) (qv 0) qint (fun _ _ => rfl)) (qv 1)) (gsub (qv 0) qint xSet))
        (bone (sret (qv 2))))) bnil)
      (bcons (sset (i := 3) sc_law_take.nd rfl (by first | exact Or.inl rfl | exact Or.inr rfl) (qop rMod (qop rAdd (qop rMul (qix (xIx K) (qv 0) qint (fun _ _ => rfl)) qint) qint) qint))
      (bcons (sasg (qv 3) (gsub (qv 0) qint xSet))
      (bone (sret (qop rMod (qop rDivB (qop rMod (qop rAdd (qop rMul (qv 3) (qop rAdd (qop rMod (qv 3) qint) qint)) (qop rDivB (qv 3) qint)) qint) qint) (qv 1))))))), ?_⟩
    refine ⟨_, rfl, p, _, 0, _, rfl, rfl, .inl (SqL.of hp), atI_nat (j := 0) rfl, _, rfl, ?_⟩
    refine ite2 (fun _ => ?_) (fun _ => ?_)
    · refine ⟨_, rfl, p, _, 1, _, rfl, rfl, .inl (SqL.of hp), atI_nat (j := 1) rfl, _, rfl, _, _, rfl, rfl, hc, ?_⟩
      refine ⟨_, rfl, p, _, 1, _, rfl, rfl, .inl (SqL.of hp), atI_nat (j := 1) rfl, _, rfl, _, _, rfl, rfl, ⟨hc, Int.lt_trans hc2 (by decide +kernel)⟩, _, rfl, p, _, 1, 1, rfl, rfl, hp, rfl, ?_⟩
      refine ⟨_, rfl, ?_⟩
      exact k (n % c) _ (Int.emod_nonneg _ (by omega)) (Int.emod_lt_of_pos _ hc) ⟨_, _, upd_same⟩ (same_upd rm_same rm_self)
    · refine ⟨_, rfl, p, _, 1, _, rfl, rfl, .inl (SqL.of hp), atI_nat (j := 1) rfl, _, _, rfl, rfl, cmR (by decide), _, _, rfl, rfl, (show (0 : Int) < 2147483629 by decide), ?_⟩
      generalize hone : (n * 69621 + 11) % 2147483629 = one
      have b1 : 0 ≤ one := by rw [← hone]; exact Int.emod_nonneg _ (by decide)
      have b2 : one < 2147483629 := by rw [← hone]; exact Int.emod_lt_of_pos _ (by decide)
      refine ⟨_, rfl, _, rfl, p, _, 1, 1, rfl, rfl, hp, rfl, ?_⟩
      refine ⟨_, rfl, _, rfl, _, _, rfl, rfl, (show (0 : Int) < 65519 by decide), _, _, rfl, rfl, cmL ⟨by omega, by omega⟩, _, rfl, _, _, rfl, rfl, ⟨by decide, by decide⟩, _, _, rfl, rfl, (show (0 : Int) < 2147483587 by decide), _, _, rfl, rfl, ⟨by decide, by decide⟩, _, rfl, _, _, rfl, rfl, hc, ?_⟩
      exact k _ _ (Int.emod_nonneg _ (by omega)) (Int.emod_lt_of_pos _ hc) ⟨_, _, upd_same⟩ (same_upd rm_same rm_self)
theorem ok_pen {f : Addr} (F : Fd K mg "_law_pen" s_law_pen f) (T : Tx K mg) : Cal P w K mg base CX0 1 "_law_pen" (spPen K) := by
  refine F.cal sc_law_pen (fun _ _ _ _ _ _ us hl => match us, hl with | [_, _], _ => rfl) (fun vs H Q E h => ?_) (fun cdv A outer s H vs Q E hr h => ?_)
  · obtain ⟨a, k, ns, rfl, _⟩ := h; rfl
  · obtain ⟨a, k, ns, rfl, ha, hl, h0, h1, q⟩ := h
    refine split 2 (fun σ' H' => H' = H ∧ ∃ cell, σ' = [some (.ref a), some (.int k), some (.int cell)]) ?h2 ?h1
    case h2 =>
      refine ⟨_, (bcons (sif (tcmp rGe (qB fAbs rfl T.b_abs bt_abs (qcons (qv 2) qnil)) (qop rPow qint qint) (nomark _)) (bone (sret (qlst (qcons qint (qcons (qB fAbs rfl T.b_abs bt_abs (qcons (qv 2) qnil)) qnil))))) bnil)
      (bone (sret (qlst (qcons qint (qcons (qop rMod (qop rAdd (qop rAdd (qop rMul (qv 2) qint) (qop rMul qint (qv 1))) qint) qint) qnil)))))), ?_⟩
      rintro σ' H' ⟨rfl, cell, rfl⟩
      refine ⟨_, rfl, _, rfl, _, _, rfl, rfl, ⟨by decide, by decide, by decide⟩, _, _, rfl, rfl, _, rfl, ?_⟩
      refine ite2 (fun _ => ?_) (fun _ => ?_)
      · exact ⟨_, rfl, _, rfl, (show 2 ≤ sizeLine by decide), fun p H' hn s1 e1 _ => q p H' hn s1 ⟨_, _, e1⟩⟩
      · exact ⟨_, rfl, _, _, rfl, rfl, cmR (by decide), _, rfl, _, _, rfl, rfl, cmL (by decide), _, _, rfl, rfl, (show (0 : Int) < 2147483647 by decide), (show 2 ≤ sizeLine by decide), fun p H' hn s1 e1 _ => q p H' hn s1 ⟨_, _, e1⟩⟩
    case h1 =>
      intro u pu hu
      refine ⟨_, (bcons (sset (i := 2) sc_law_pen.nd rfl (by first | exact Or.inl rfl | exact Or.inr rfl) (qop rAdd (qop rMul qint (qv 1)) qint))
      (bcons (sif (tcmp rGt (qB (fLen K) rfl T.b_len bt_len (qcons (qv 0) qnil)) qint (nomark _)) (bone (sset (i := 2) sc_law_pen.nd rfl (by first | exact Or.inl rfl | exact Or.inr rfl) (qop rAdd (qix (xIx K) (qv 0) (qop rMod (qv 1) (qB (fLen K) rfl T.b_len bt_len (qcons (qv 0) qnil))) (fun _ _ => rfl)) (qop rMul qint (qop rDivB (qv 1) (qB (fLen K) rfl T.b_len bt_len (qcons (qv 0) qnil))))))) bnil)
      pu)), ?_⟩
      refine ⟨_, rfl, _, _, rfl, rfl, cmL (by decide), ?_⟩
      refine ⟨_, rfl, a, _, rfl, .inl ha, _, _, rfl, rfl, _, rfl, ?_⟩
      refine ite2 (fun hpos => ?_) (fun _ => hu _ _ ⟨rfl, _, rfl⟩)
      have hpos : 0 < (((ns.map V.int).length : Nat) : Int) := of_decide_eq_true hpos
      have hln : (ns.map V.int).length = ns.length := List.length_map _
      obtain ⟨x, hx, _⟩ := atI_ints (ns := ns) (i := k % ((ns.map V.int).length : Int)) (Int.emod_nonneg _ (by omega)) (by rw [← hln]; exact Int.emod_lt_of_pos _ hpos)
      refine ⟨_, rfl, _, rfl, _, rfl, a, _, rfl, .inl ha, _, _, rfl, rfl, hpos, a, _, _, .int x, rfl, rfl, .inl ha, hx, _, rfl, _, rfl, a, _, rfl, .inl ha, _, _, rfl, rfl, ⟨hpos, by rw [hln]; omega⟩, _, _, rfl, rfl, cmL (by decide), ?_⟩
      exact hu _ _ ⟨rfl, _, rfl⟩
theorem ok_mid {f : Addr} (F : Fd K mg "_law_middles" s_law_middles f) (T : Tx K mg) : ∀ n, Cal P w K mg base CX0 n "_law_middles" (spMid n) := by
  intro n
  induction n with
  | zero => exact F.none (ps := ["_law_low", "_law_high"]) (fun _ _ _ _ _ _ us hl => match us, hl with | [_, _], _ => rfl) fun vs H Q E ⟨lo, hi, _, h1, h2, _⟩ => by omega
  | succ n C_law_middles =>
    refine F.cal sc_law_middles (fun _ _ _ _ _ _ us hl => match us, hl with | [_, _], _ => rfl) (fun vs H Q E h => ?_) (fun cdv A outer s H vs Q E hr h => ?_)
    · obtain ⟨lo, hi, rfl, _⟩ := h; rfl
    · obtain ⟨lo, hi, rfl, h1, h2, h3, h4, h5, q⟩ := h
      refine ⟨_, (bcons (sif (tcmp (rEqq hr) (qv 0) (qv 1) (nomark _)) (bone (sret (qlst qnil))) bnil)
      (bcons (sset (i := 2) sc_law_middles.nd rfl (by first | exact Or.inl rfl | exact Or.inr rfl) (qop rDivB (qop rAdd (qv 0) (qv 1)) qint))
      (bcons (sset (i := 3) sc_law_middles.nd rfl (by first | exact Or.inl rfl | exact Or.inr rfl) (qF C_law_middles (hr.mono (by omega)) pass0 rfl (qcons (qv 0) (qcons (qv 2) qnil))))
      (bcons (sset (i := 4) sc_law_middles.nd rfl (by first | exact Or.inl rfl | exact Or.inr rfl) (qF C_law_middles (hr.mono (by omega)) pass0 rfl (qcons (qop rAdd (qv 2) qint) (qcons (qv 1) qnil))))
      (bone (sret (qop rAdd (qop rAdd (qlst (qcons (qv 2) qnil)) (qv 3)) (qv 4)))))))), ?_⟩
      refine ⟨_, rfl, _, rfl, _, rfl, ?_⟩
      refine ite2 (fun he => ?_) (fun he => ?_)
      · have he : lo = hi := of_decide_eq_true he
        subst he
        exact ⟨(show 0 ≤ sizeLine by decide), fun p H' hn s1 e1 _ => q p H' [] hn s1 e1 (mids_nil lo)⟩
      · have he : ¬ lo = hi := fun z => he (decide_eq_true z)
        refine ⟨_, rfl, _, rfl, _, _, rfl, rfl, ⟨by decide, by decide⟩, ?_⟩
        dsimp only
        generalize hm : (lo + hi) / 2 = m
        have m1 : lo ≤ m := by omega
        have m2 : m < hi := by omega
        refine ⟨_, rfl, _, rfl, lo, m, rfl, m1, by omega, by omega, by omega, by omega, fun r1 H1 xs n1 s1 e1 M1 => ?_⟩
        refine ⟨_, rfl, _, rfl, m + 1, hi, rfl, by omega, by omega, by omega, by omega, by omega, fun r2 H2 ys n2 s2 e2 M2 => ?_⟩
        have l1 := M1.len
        have l2 := M2.len
        refine ⟨_, rfl, (show 1 ≤ sizeLine by decide), fun r3 H3 n3 s3 e3 _ => ?_⟩
        refine ⟨_, rfl, _, _, e3, s3 _ _ (s2 _ _ e1), sizeBig' (by simp; omega), fun r4 H4 n4 s4 e4 _ => ?_⟩
        refine ⟨_, rfl, _, _, e4, s4 _ _ (s3 _ _ e2), sizeBig' (by simp; omega), fun r5 H5 n5 s5 e5 _ => ?_⟩
        have s : Same H H4 := (s1.trans s2).trans (s3.trans s4)
        refine q r5 H5 ([m] ++ xs ++ ys) (s.free n5) (s.trans s5) ?_ (mids_node m1 m2 M1 M2)
        rw [e5]; simp
theorem ok_ranks {f : Addr} (F : Fd K mg "_law_ranks" s_law_ranks f) (T : Tx K mg) (C_law_take : Cal P w K mg base CX0 1 "_law_take" spTake) (C_law_middles : Cal P w K mg base CX0 70 "_law_middles" (spMid 70)) : Cal P w K mg base CX0 72 "_law_ranks" spRanks := by
  refine F.cal sc_law_ranks (fun _ _ _ _ _ _ us hl => match us, hl with | [_, _], _ => rfl) (fun vs H Q E h => ?_) (fun cdv A outer s H vs Q E hr h => ?_)
  · obtain ⟨p, n, rfl, _⟩ := h; rfl
  · obtain ⟨p, n, rfl, hp, h0, h1, q⟩ := h
    refine ⟨_, (bcons (sset (i := 2) sc_law_ranks.nd rfl (by first | exact Or.inl rfl | exact Or.inr rfl) (qF C_law_take (hr.mono (by omega)) pass0 rfl (qcons (qv 0) (qcons qint qnil))))
      (bcons (sif (tcmp (rEqq hr) (qv 2) qint (nomark _)) (bone (sret (qTy fListRng rfl T.b_list bt_list (qcons (qRange1 rfl T.b_range (qcons (qv 1) qnil)) qnil)))) bnil)
      (bcons (sif (tcmp (rEqq hr) (qv 2) qint (nomark _)) (bone (sret (qrev K (qTy fListRng rfl T.b_list bt_list (qcons (qRange1 rfl T.b_range (qcons (qv 1) qnil)) qnil)) (osome (qun rNeg qint))))) bnil)
      (bcons (sif (tcmp (rEqq hr) (qv 2) qint (nomark _)) (bone (sret (qcomp (sc := defScope s_law_ranks) (NX := ["_law_pen_here", "_law_many", "_law_shape", "_law_ranks_here", "_law_k"]) ["_law_k", "_law_many"] [none, some 1] rfl (irange1 rfl T.b_range (qcons (qv 1) qnil)) (fun _ _ _ => (gname (i := 0) (show (["_law_k", "_law_many"] : List Str).Nodup by decide +kernel) rfl (by first | exact Or.inl rfl | exact Or.inr rfl))) (fun _ _ _ => csnil) (fun _ _ _ => (qix (xIx K) (qlst (qcons (qop rDivB (qv 0) qint) (qcons (qop rSub (qop rSub (qv 1) qint) (qop rDivB (qv 0) qint)) qnil))) (qop rMod (qv 0) qint) (fun _ _ => rfl))) rfl rfl (by decide +kernel)))) bnil)
      (bcons (sif (tcmp (rEqq hr) (qv 2) qint (nomark _)) (bone (sret (qF C_law_middles (hr.mono (by omega)) pass0 rfl (qcons qint (qcons (qv 1) qnil))))) bnil)
      (bcons (sset (i := 3) sc_law_ranks.nd rfl (by first | exact Or.inl rfl | exact Or.inr rfl) (qlst qnil))
      (bcons (sfor PassesOwn.never rfl (irange1 rfl T.b_range (qcons (qv 1) qnil)) (gname (i := 4) sc_law_ranks.nd rfl (by first | exact Or.inl rfl | exact Or.inr rfl))
        (bone (sexpr (qBm K PySem.F.plainAttrs_list PySem.F.slot_list_insert PySem.F.type_list_insert mInsert (qv 3) (qcons (qF C_law_take (hr.mono (by omega)) pass0 rfl (qcons (qv 0) (qcons (qop rAdd (qv 4) qint) qnil))) (qcons (qv 4) qnil))))))
      (bone (sret (qv 3)))))))))), ?_⟩
    have en : ((n.toNat : Nat) : Int) = n := by omega
    refine ⟨_, rfl, p, 8, rfl, hp, by decide, by decide, fun sh H1 sh0 sh1 p1 s1 => ?_⟩
    obtain ⟨m', n', hp1⟩ := id p1
    -- rising
    refine ⟨_, rfl, _, rfl, ?_⟩
    refine ite2 (fun _ => ?_) (fun _ => ?_)
    · refine ⟨_, rfl, n, rfl, fun r2 H2 n2 s2 e2 _ => ⟨r2, 0, n, rfl, e2, ⟨by decide, by decide, by omega, by omega, by omega⟩, fun r3 H3 n3 s3 e3 _ => ?_⟩⟩
      rw [erv] at e3
      exact q r3 H3 _ (rm_free (s1.trans s2) n3 (s2 _ _ hp1)) (s1.trans (s2.trans s3)) (p1.mono (s2.trans s3)) e3 (ranks_up _)
    -- falling
    refine ⟨_, rfl, _, rfl, ?_⟩
    refine ite2 (fun _ => ?_) (fun _ => ?_)
    · refine ⟨_, rfl, n, rfl, fun r2 H2 n2 s2 e2 _ => ⟨r2, 0, n, rfl, e2, ⟨by decide, by decide, by omega, by omega, by omega⟩, fun r3 H3 n3 s3 e3 _ => ?_⟩⟩
      refine ⟨_, rfl, _, rfl, rfl, r3, _, rfl, SqL.of e3, fun r4 H4 n4 s4 e4 _ => ?_⟩
      rw [erv, ← List.map_reverse] at e4
      exact q r4 H4 _ (rm_free (s1.trans (s2.trans s3)) n4 (s3 _ _ (s2 _ _ hp1))) (s1.trans (s2.trans (s3.trans s4))) (p1.mono (s2.trans (s3.trans s4))) e4 (ranks_down _)
    -- in and out
    refine ⟨_, rfl, _, rfl, ?_⟩
    refine ite2 (fun _ => ?_) (fun _ => ?_)
    · refine ⟨_, rfl, n, rfl, by omega, by omega, fun acc ha => ?_⟩
      refine comp_range (fun i ys σ H' => ∃ z, σ = [z, some (.int n)] ∧ Same H1 H' ∧ H' acc = some (.lst ys) ∧ ys = ((upN i).map (inOut n)).map V.int) ⟨none, rfl, same_new ha, upd_same, rfl⟩ ?_ ?_
      · rintro i ys σ H2 hi ⟨z, rfl, s2, e2, rfl⟩
        refine ⟨_, rfl, _, _, rfl, rfl, ⟨by decide, by decide⟩, _, rfl, _, _, rfl, rfl, _, rfl, _, _, rfl, rfl, ⟨by decide, by decide⟩, _, _, rfl, rfl, (show 2 ≤ sizeLine by decide), fun l H3 n3 s3 e3 _ => ?_⟩
        refine ⟨_, rfl, _, _, rfl, rfl, (show (0 : Int) < 2 by decide), l, _, _, .int (inOut n i), rfl, rfl, .inl (SqL.of e3), ?_, ?_⟩
        · have hz : (0 : Int) + (i : Int) = i := Int.zero_add _
          rw [hz]
          unfold inOut
          rcases Int.emod_two_eq (i : Int) with e | e <;> rw [e]
          · exact atI_nat (j := 0) rfl
          · exact atI_nat (j := 1) rfl
        · refine cpost (s3 _ _ e2) (sizeBig (by simp [upN]; omega)) hi ⟨_, rfl, same_upd (s2.trans s3) ha, upd_same, ?_⟩
          rw [upN_succ, List.map_append, List.map_append]; rfl
      · rintro ys σ H2 ⟨z, rfl, s2, e2, rfl⟩
        have := ranks_inOut n.toNat
        rw [en] at this
        exact q acc H2 _ (rm_free s1 ha hp1) (s1.trans s2) (p1.mono s2) e2 this
    -- by middles
    refine ⟨_, rfl, _, rfl, ?_⟩
    refine ite2 (fun _ => ?_) (fun _ => ?_)
    · refine ⟨_, rfl, 0, n, rfl, h0, by omega, by decide, by decide, by omega, fun r H2 xs n2 s2 e2 M => ?_⟩
      exact q r H2 xs (rm_free s1 n2 hp1) (s1.trans s2) (p1.mono s2) e2 (Mids.ranks (by rw [en]; exact M))
    -- drawn
    refine ⟨(show 0 ≤ sizeLine by decide), fun l H2 n2 s2 e2 _ => ?_⟩
    have hlp := p1.ne n2
    refine ⟨_, rfl, n, rfl, by omega, by omega, for_range (n := n.toNat) (fun i σ H' => ∃ z xs, σ = [some (.ref p), some (.int n), some (.int sh), some (.ref l), z] ∧ Same (rm p H) H' ∧ PenAt H' p ∧ H' l = some (.lst (xs.map V.int)) ∧ Ranks i xs)
      ⟨none, [], rfl, s1.trans s2, p1.mono s2, e2, ranks_zero⟩ ?_ ?_⟩
    · rintro i σ H3 hi ⟨z, xs, rfl, s3, p3, e3, R⟩
      have hl := R.len
      refine ⟨_, rfl, .inl ⟨rfl, _, SqL.of e3⟩, _, rfl, _, rfl, p, _, rfl, p3, by omega, by omega, fun r H4 r0 r1 p4 s4 => ?_⟩
      have e4 := rm_look s4 e3 hlp
      refine ⟨_, rfl, l, _, r, _, rfl, rfl, e4, r0, by rw [List.length_map]; omega, sizeBig (by rw [List.length_map]; omega), ?_⟩
      obtain ⟨m4, n4, hp4⟩ := id p4
      refine ⟨_, xs.take r.toNat ++ (i : Int) :: xs.drop r.toNat, rfl, same_upd (rm_trans s3 s4) ((s1.trans (Same.refl _)).free n2), ⟨m4, n4, by rw [upd_ne hlp.symm]; exact hp4⟩, ?_, ranks_insert R _⟩
      rw [upd_same, List.map_append, List.map_cons, List.map_take, List.map_drop, Int.zero_add]
    · rintro σ H3 ⟨z, xs, rfl, s3, p3, e3, R⟩
      refine ⟨_, rfl, ?_⟩
      exact q l H3 xs (rm_free s1 n2 hp1) s3 p3 e3 R
theorem ok_keys {f : Addr} (F : Fd K mg "_law_keys" s_law_keys f) (T : Tx K mg) (C_law_take : Cal P w K mg base CX0 1 "_law_take" spTake) (C_law_ranks : Cal P w K mg base CX0 72 "_law_ranks" spRanks) : Cal P w K mg base CX0 74 "_law_keys" spKeys := by
  refine F.cal sc_law_keys (fun _ _ _ _ _ _ us hl => match us, hl with | [_, _], _ => rfl) (fun vs H Q E h => ?_) (fun cdv A outer s H vs Q E hr h => ?_)
  · obtain ⟨p, n, rfl, _⟩ := h; rfl
  · obtain ⟨p, n, rfl, hp, h0, h1, q⟩ := h
    refine ⟨_, (bcons (sset (i := 2) sc_law_keys.nd rfl (by first | exact Or.inl rfl | exact Or.inr rfl) (qF C_law_take (hr.mono (by omega)) pass0 rfl (qcons (qv 0) (qcons (qix (xIx K) (qlst (qcons qint (qcons qint (qcons qint (qcons (qop rAdd (qv 1) qint) qnil))))) (qF C_law_take (hr.mono (by omega)) pass0 rfl (qcons (qv 0) (qcons qint qnil))) (fun _ _ => rfl)) qnil))))
      (bcons (sset (i := 3) sc_law_keys.nd rfl (by first | exact Or.inl rfl | exact Or.inr rfl) (qix (xIx K) (qlst (qcons qint (qcons qint (qcons qint (qcons qint (qcons (qop rPow qint qint) qnil)))))) (qF C_law_take (hr.mono (by omega)) pass0 rfl (qcons (qv 0) (qcons qint qnil))) (fun _ _ => rfl)))
      (bcons (sset (i := 4) sc_law_keys.nd rfl (by first | exact Or.inl rfl | exact Or.inr rfl) (qix (xIx K) (qlst (qcons (qop rSub qint (qv 2)) (qcons (qop rSub (qF C_law_take (hr.mono (by omega)) pass0 rfl (qcons (qv 0) (qcons qint qnil))) qint) (qcons (qun rNeg (qop rPow qint qint)) (qcons qint qnil))))) (qF C_law_take (hr.mono (by omega)) pass0 rfl (qcons (qv 0) (qcons qint qnil))) (fun _ _ => rfl)))
      (bcons (sset (i := 5) sc_law_keys.nd rfl (by first | exact Or.inl rfl | exact Or.inr rfl) (qF C_law_take (hr.mono (by omega)) pass0 rfl (qcons (qv 0) (qcons qint qnil))))
      (bone (sret (qcomp (sc := defScope s_law_keys) (NX := ["_law_pen_here", "_law_most", "_law_many", "_law_gap", "_law_first", "_law_bent"]) ["_law_rank", "_law_first", "_law_gap", "_law_bent"] [none, some 4, some 3, some 5] rfl (iseq K (qF C_law_ranks (hr.mono (by omega)) pass0 rfl (qcons (qv 0) (qcons (qv 2) qnil)))) (fun _ _ _ => (gname (i := 0) (show (["_law_rank", "_law_first", "_law_gap", "_law_bent"] : List Str).Nodup by decide +kernel) rfl (by first | exact Or.inl rfl | exact Or.inr rfl))) (fun _ _ _ => csnil) (fun _ _ _ => (qop rAdd (qv 1) (qop rMul (qv 2) (qix (xIx K) (qlst (qcons (qv 0) (qcons (qop rMul (qv 0) (qv 0)) qnil))) (qv 3) (fun _ _ => rfl))))) rfl rfl (by decide +kernel)))))))), ?_⟩
    -- many
    refine ⟨_, rfl, _, rfl, (show 4 ≤ sizeLine by decide), fun l1 H1 n1 s1 e1 _ => ?_⟩
    refine ⟨_, rfl, p, 4, rfl, hp.mono s1, by decide, by decide, fun r2 H2 r20 r21 p2 s2 => ?_⟩
    obtain ⟨c, hc, hm⟩ := atI_ints (ns := [4, 9, 9, n + 1]) r20 r21
    have hc1 : 0 < c ∧ c ≤ 61 := by
      simp only [List.mem_cons, List.not_mem_nil, or_false] at hm
      omega
    refine ⟨l1, _, r2, .int c, rfl, rfl, .inl (SqL.of (rm_look s2 e1 (hp.ne n1))), hc, ?_⟩
    refine ⟨p, c, rfl, p2, hc1.1, by omega, fun many H3 m0 m1 p3 s3 => ?_⟩
    have t3 : Same (rm p H) H3 := rm_trans (rm_trans (rm_same.trans s1) s2) s3
    -- gap
    refine ⟨_, _, rfl, rfl, ⟨by decide, by decide, by decide⟩, (show 5 ≤ sizeLine by decide), fun l4 H4 n4 s4 e4 _ => ?_⟩
    refine ⟨_, rfl, p, 5, rfl, p3.mono s4, by decide, by decide, fun r5 H5 r50 r51 p5 s5 => ?_⟩
    obtain ⟨gap, hg, hgm⟩ := atI_ints (ns := [1, 1, 2, 7, 10 ^ 56]) r50 r51
    have hg1 : 0 < gap ∧ gap ≤ 10 ^ 56 := by
      simp only [List.mem_cons, List.not_mem_nil, or_false] at hgm
      omega
    refine ⟨l4, _, r5, .int gap, rfl, rfl, .inl (SqL.of (rm_look s5 e4 (p3.ne n4))), hg, ?_⟩
    have t5 : Same (rm p H) H5 := rm_trans (t3.trans s4) s5
    -- first
    refine ⟨_, rfl, _, _, rfl, rfl, _, rfl, p, 41, rfl, p5, by decide, by decide, fun r6 H6 r60 r61 p6 s6 => ?_⟩
    refine ⟨_, _, rfl, rfl, _, _, rfl, rfl, ⟨by decide, by decide, by decide⟩, _, rfl, (show 4 ≤ sizeLine by decide), fun l7 H7 n7 s7 e7 _ => ?_⟩
    refine ⟨_, rfl, p, 4, rfl, p6.mono s7, by decide, by decide, fun r8 H8 r80 r81 p8 s8 => ?_⟩
    obtain ⟨first, hf, hfm⟩ := atI_ints (ns := [0 - many, r6 - 20, -(10 ^ 58), 0]) r80 r81
    have hf1 : -(10 ^ 59) ≤ first ∧ first ≤ 10 ^ 59 := by
      simp only [List.mem_cons, List.not_mem_nil, or_false] at hfm
      omega
    refine ⟨l7, _, r8, .int first, rfl, rfl, .inl (SqL.of (rm_look s8 e7 (p6.ne n7))), hf, ?_⟩
    have t8 : Same (rm p H) H8 := rm_trans ((rm_trans t5 s6).trans s7) s8
    -- bent
    refine ⟨_, rfl, p, 2, rfl, p8, by decide, by decide, fun bent H9 b0 b1 p9 s9 => ?_⟩
    -- the keys
    refine ⟨_, rfl, _, rfl, p, many, rfl, p9, m0, by omega, fun r10 H10 xs n10 s10 p10 e10 R => ?_⟩
    have t10 : Same (rm p H) H10 := rm_trans (rm_trans t8 s9) s10
    refine ⟨r10, rfl, .inl ⟨⟨_, SqL.of e10⟩, fun acc ha => ?_⟩⟩
    have hlen := R.len
    refine comp_list (xs := xs.map V.int) (fun i ys σ H' => ∃ z, σ = [z, some (.int first), some (.int gap), some (.int bent)] ∧ Same H10 H' ∧ H' acc = some (.lst ys) ∧ ys = ((xs.take i).map (keyOf first gap bent)).map V.int) ⟨none, rfl, same_new ha, upd_same, rfl⟩ (fun i ys σ H' ⟨_, _, s', _⟩ => SqL.of (s' _ _ e10)) ?_ ?_
    · rintro i ys x σ H11 hx hi ⟨z, rfl, s11, e11, rfl⟩
      rw [List.getElem?_map] at hx
      obtain ⟨r, hr1, rfl⟩ := Option.map_eq_some_iff.mp hx
      have hrm := List.mem_of_getElem? hr1
      have hrb := R.bd r hrm
      have sq : 0 ≤ r * r ∧ r * r ≤ 4000 := by
        have a1 : 0 ≤ r * r := Int.mul_nonneg hrb.1 hrb.1
        have a2 : r * r ≤ 61 * r := Int.mul_le_mul_of_nonneg_right (by omega) hrb.1
        omega
      refine ⟨_, rfl, _, rfl, _, rfl, _, rfl, _, rfl, _, _, rfl, rfl, cmL ⟨by omega, by omega⟩, (show 2 ≤ sizeLine by decide), fun l12 H12 n12 s12 e12 _ => ?_⟩
      refine ⟨_, rfl, l12, _, bent, .int (if bent = 0 then r else r * r), rfl, rfl, .inl (SqL.of e12), ?_, _, _, rfl, rfl, cmR ?_, ?_⟩
      · have : bent = 0 ∨ bent = 1 := by omega
        rcases this with rfl | rfl
        · exact atI_nat (j := 0) rfl
        · exact atI_nat (j := 1) rfl
      · split <;> omega
      · have hil : i < xs.length := by simpa using hi
        refine cpost (s12 _ _ e11) (sizeBig (by simp; omega)) hi ?_
        refine ⟨_, rfl, same_upd (s11.trans s12) ha, upd_same, ?_⟩
        rw [List.take_add_one, hr1, List.map_append, List.map_append]; rfl
    · rintro ys σ H11 ⟨z, rfl, s11, e11, rfl⟩
      obtain ⟨m', n', hp10⟩ := id p10
      rw [List.length_map, List.take_length] at e11
      refine q acc H11 _ (rm_free t10 ha hp10) (t10.trans s11) (p10.mono s11) e11 (keys_nodup R hg1.1) (by rw [List.length_map]; omega) fun x hx => ?_
      obtain ⟨r, hr1, rfl⟩ := List.mem_map.mp hx
      have := R.bd r hr1
      exact keyOf_bound hf1.1 hf1.2 hg1.1 hg1.2 this.1 (by omega)
theorem ok_grown {f : Addr} (F : Fd K mg "_law_grown" s_law_grown f) (T : Tx K mg) : ∀ n, Cal P w K mg base CX0 n "_law_grown" (spGrown n) := by
  intro n
  induction n with
  | zero => exact F.none (ps := ["_law_tree_here", "_law_key"]) (fun _ _ _ _ _ _ us hl => match us, hl with | [_, _], _ => rfl) fun vs H Q E ⟨v, k, t, _, _, h2, _⟩ => by omega
  | succ n C_law_grown =>
    refine F.cal sc_law_grown (fun _ _ _ _ _ _ us hl => match us, hl with | [_, _], _ => rfl) (fun vs H Q E h => ?_) (fun cdv A outer s H vs Q E hr h => ?_)
    · obtain ⟨v, k, t, rfl, _⟩ := h; rfl
    · obtain ⟨v, k, t, rfl, hv, ht, q⟩ := h
      refine ⟨_, (bcons (sif (tcmp rIs (qv 0) qnon (nomark _)) (bone (sret (qtup (qcons qnon (qcons (qv 1) (qcons qnon qnil)))))) bnil)
      (bcons (sasg (qv 0) (gtup (n := 3) K rfl (gscons (gname (i := 2) sc_law_grown.nd rfl (by first | exact Or.inl rfl | exact Or.inr rfl)) (gscons (gname (i := 3) sc_law_grown.nd rfl (by first | exact Or.inl rfl | exact Or.inr rfl)) (gscons (gname (i := 4) sc_law_grown.nd rfl (by first | exact Or.inl rfl | exact Or.inr rfl)) gsnil)))))
      (bcons (sif (tcmp rLt (qv 1) (qv 3) (nomark _)) (bone (sret (qtup (qcons (qF C_law_grown (hr.mono (by omega)) pass0 rfl (qcons (qv 2) (qcons (qv 1) qnil))) (qcons (qv 3) (qcons (qv 4) qnil)))))) bnil)
      (bone (sret (qtup (qcons (qv 2) (qcons (qv 3) (qcons (qF C_law_grown (hr.mono (by omega)) pass0 rfl (qcons (qv 4) (qcons (qv 1) qnil))) qnil))))))))), ?_⟩
      cases t with
      | nil =>
        cases rep_nil hv
        refine ⟨_, rfl, rfl, _, rfl, ?_⟩
        exact ⟨_, rfl, (show 3 ≤ sizeLine by decide), fun a H1 n1 s1 e1 _ => q _ _ s1 (rep_mk e1 .non .non)⟩
      | node l x r =>
        obtain ⟨a, vl, vr, rfl, ea, hl, hr'⟩ := rep_node hv
        refine ⟨_, rfl, rfl, _, rfl, ?_⟩
        refine ⟨_, rfl, a, _, rfl, SqT.of ea, rfl, _, _, rfl, _, _, rfl, _, _, rfl, rfl, ?_⟩
        refine ⟨_, rfl, _, rfl, _, _, rfl, rfl, _, rfl, ?_⟩
        simp only [Tr.ht] at ht
        refine ite2 (fun hlt => ?_) (fun hlt => ?_)
        · have hlt : k < x := of_decide_eq_true hlt
          refine ⟨_, rfl, _, rfl, vl, k, l, rfl, hl, by omega, fun r1 H1 s1 g1 => ?_⟩
          refine ⟨_, rfl, _, rfl, (show 3 ≤ sizeLine by decide), fun a2 H2 n2 s2 e2 _ => ?_⟩
          refine q _ _ (s1.trans s2) ?_
          rw [Tr.ins, if_pos hlt]
          exact rep_mk e2 (g1.mono s2) (hr'.mono (s1.trans s2))
        · have hlt : ¬ k < x := fun z => hlt (decide_eq_true z)
          refine ⟨_, rfl, _, rfl, _, rfl, _, rfl, vr, k, r, rfl, hr', by omega, fun r1 H1 s1 g1 => ?_⟩
          refine ⟨(show 3 ≤ sizeLine by decide), fun a2 H2 n2 s2 e2 _ => ?_⟩
          refine q _ _ (s1.trans s2) ?_
          rw [Tr.ins, if_neg hlt]
          exact rep_mk e2 (hl.mono (s1.trans s2)) (g1.mono s2)
theorem ok_tree {f : Addr} (F : Fd K mg "_law_tree" s_law_tree f) (T : Tx K mg) (C_law_grown : Cal P w K mg base CX0 70 "_law_grown" (spGrown 70)) : Cal P w K mg base CX0 71 "_law_tree" spTree := by
  refine F.cal sc_law_tree (fun _ _ _ _ _ _ us hl => match us, hl with | [_], _ => rfl) (fun vs H Q E h => ?_) (fun cdv A outer s H vs Q E hr h => ?_)
  · obtain ⟨a, xs, rfl, _⟩ := h; rfl
  · obtain ⟨a, xs, rfl, ha, hl, q⟩ := h
    refine ⟨_, (bcons (sset (i := 1) sc_law_tree.nd rfl (by first | exact Or.inl rfl | exact Or.inr rfl) qnon)
      (bcons (sfor PassesOwn.never rfl (iseq K (qv 0)) (gname (i := 2) sc_law_tree.nd rfl (by first | exact Or.inl rfl | exact Or.inr rfl))
        (bone (sset (i := 1) sc_law_tree.nd rfl (by first | exact Or.inl rfl | exact Or.inr rfl) (qF C_law_grown (hr.mono (by omega)) pass0 rfl (qcons (qv 1) (qcons (qv 2) qnil))))))
      (bone (sret (qv 1))))), ?_⟩
    refine ⟨_, rfl, a, rfl, .inl ⟨⟨_, SqL.of ha⟩, for_list (xs := xs.map V.int) (fun i σ H' => ∃ v z, σ = [some (.ref a), some v, z] ∧ Same H H' ∧ Rep H' v (Tr.build (xs.take i)).d) ⟨.non, none, rfl, Same.refl _, .non⟩ (fun i σ H' _ ⟨_, _, _, s', _⟩ => SqL.of (s' _ _ ha)) ?_ ?_⟩⟩
    · rintro i x σ H1 hx ⟨v, z, rfl, s1, g1⟩
      rw [List.getElem?_map] at hx
      obtain ⟨y, hy, rfl⟩ := Option.map_eq_some_iff.mp hx
      have hil := (List.getElem?_eq_some_iff.mp hy).1
      have hb : (Tr.build (xs.take i)).ht < 70 := by
        have h1 := Tr.ht_size (Tr.build (xs.take i))
        have h2 := Tr.size_build (xs.take i)
        rw [List.length_take] at h2
        omega
      refine ⟨_, rfl, _, rfl, v, y, _, rfl, g1, hb, fun r H2 s2 g2 => ?_⟩
      refine ⟨_, _, rfl, s1.trans s2, ?_⟩
      rw [List.take_add_one, hy]
      unfold Tr.build
      rw [List.foldl_append]
      exact g2
    · rintro σ H1 ⟨v, z, rfl, s1, g1⟩
      refine ⟨_, rfl, q _ _ s1 ?_⟩
      rw [List.length_map, List.take_length] at g1
      exact g1
end
end K02
namespace K02
open PySem L2 L3
theorem key_l {l r : Tr} {x k : Int} {lo hi : Option Int} (ho : (Tr.node l x r).ord lo hi) (h : k ∈ (Tr.node l x r).keys) (c : k < x) : k ∈ l.keys := by
  simp only [Tr.keys, List.mem_append, List.mem_singleton] at h
  rcases h with (h | h) | h
  · exact h
  · omega
  · have := ord_r ho h; omega
theorem key_r {l r : Tr} {x k : Int} {lo hi : Option Int} (ho : (Tr.node l x r).ord lo hi) (h : k ∈ (Tr.node l x r).keys) (c : x < k) : k ∈ r.keys := by
  simp only [Tr.keys, List.mem_append, List.mem_singleton] at h
  rcases h with (h | h) | h
  · have := ord_l ho h; omega
  · omega
  · exact h
theorem at_ne (k : Int) : ∀ (t : Tr) (lo hi : Option Int), t.ord lo hi → k ∈ t.keys → at_ k t ≠ .nil
  | .nil, _, _, _, h => by simp [Tr.keys] at h
  | .node l x r, lo, hi, ho, h => by
    rw [at_]
    by_cases e : x = k
    · rw [if_pos e]; exact fun z => nomatch z
    · rw [if_neg e]
      by_cases c : k < x
      · rw [if_pos c]; exact at_ne k l _ _ ho.2.2.1 (key_l ho h c)
      · rw [if_neg c]; exact at_ne k r _ _ ho.2.2.2 (key_r ho h (by omega))
theorem at_mem {k : Int} : ∀ {t : Tr}, at_ k t ≠ .nil → k ∈ t.keys
  | .nil, h => absurd rfl h
  | .node l x r, h => by
    rw [at_] at h
    by_cases e : x = k
    · subst e; simp [Tr.keys]
    · rw [if_neg e] at h
      split at h
      · have := at_mem (t := l) h; simp [Tr.keys, this]
      · have := at_mem (t := r) h; simp [Tr.keys, this]
def spSide : Sp := fun vs H Q _ => ∃ (a : Addr) (vl vr : V) (x k : Int), vs = [.ref a, .int k] ∧ H a = some (.tup [vl, .int x, vr]) ∧ Q (if k < x then vl else vr) H
def spAt : Sp := fun vs H Q _ => ∃ (v : V) (t : Tr) (k : Int), vs = [v, .int k] ∧ Rep H v t.d ∧ ∀ v', Rep H v' (at_ k t).d → Q v' H
def spKof (n : Nat) : Sp := fun vs H Q _ => ∃ (v : V) (t : Tr), vs = [v] ∧ Rep H v (Tr.d t) ∧ t.ht < n ∧ t.size ≤ 1000 ∧ ∀ r H', H r = none → Same H H' → H' r = some (.lst (t.keys.map V.int)) → Q (.ref r) H'
def spPut (n : Nat) : Sp := fun vs H Q _ => ∃ (v : V) (k : Int) (t : Tr), vs = [v, .int k] ∧ Rep H v (Tr.d t) ∧ t.ht < n ∧ ∀ (r : V) (H' : Hp), Same H H' → Rep H' r (t.ins k).d → Q r H'
def spPutE (cH cF : Addr) : Sp := fun vs H Q E => ∃ (v : V) (k : Int) (t : Tr), vs = [v, .int k] ∧ Rep H v (Tr.d t) ∧ t.ht < 80 ∧ t.size ≤ 1000 ∧ t.ord none none ∧ (k ∈ t.keys → E (.ref cH) none H) ∧
  (k ∉ t.keys → 60 ≤ t.size → ∀ H', Same H H' → E (.ref cF) none H') ∧ (k ∉ t.keys → t.size < 60 → ∀ (r : V) (H' : Hp), Same H H' → Rep H' r (t.ins k).d → Q r H')
def spTofE (cT : Addr) : Sp := fun vs H Q E => ∃ (a : Addr) (xs : List Int), vs = [.ref a] ∧ H a = some (.lst (xs.map V.int)) ∧ xs.length ≤ 61 ∧ (¬ xs.Nodup → E (.ref cT) none H) ∧ (xs.Nodup → ∀ (r : V) (H' : Hp), Same H H' → Rep H' r (xs.foldl (fun t x => t.ins x) Tr.nil).d → Q r H')
section
variable {P : Program} {w : World} {K : PySem.W.Frag} {mg : Str → Option Value} {base : Heap}
theorem ok_side {f : Addr} (F : Fd K mg "side_towards" s_side_towards f) (T : Tx K mg) : Cal P w K mg base CX0 1 "side_towards" spSide := by
  refine F.cal sc_side_towards (fun _ _ _ _ _ _ us hl => match us, hl with | [_, _], _ => rfl) (fun vs H Q E h => ?_) (fun cdv A outer s H vs Q E hr h => ?_)
  · obtain ⟨a, vl, vr, x, k, rfl, _⟩ := h; rfl
  · obtain ⟨a, vl, vr, x, k, rfl, ea, q⟩ := h
    refine ⟨_, (bone (sret (qif (tcmp rLt (qv 1) (qix (xIx K) (qv 0) qint (fun _ _ => rfl)) (nomark _)) (qix (xIx K) (qv 0) qint (fun _ _ => rfl)) (qix (xIx K) (qv 0) qint (fun _ _ => rfl))))), ?_⟩
    refine ⟨_, rfl, _, rfl, a, _, 1, _, rfl, rfl, .inr (SqT.of ea), atI_nat (j := 1) rfl, _, _, rfl, rfl, _, rfl, ?_⟩
    refine ite2 (fun h => ?_) (fun h => ?_)
    · have h : k < x := of_decide_eq_true h
      rw [if_pos h] at q
      exact ⟨_, rfl, a, _, 0, _, rfl, rfl, .inr (SqT.of ea), atI_nat (j := 0) rfl, q⟩
    · have h : ¬ k < x := fun z => h (decide_eq_true z)
      rw [if_neg h] at q
      exact ⟨_, rfl, a, _, 2, _, rfl, rfl, .inr (SqT.of ea), atI_nat (j := 2) rfl, q⟩
theorem ok_at {f : Addr} (F : Fd K mg "knot_at" s_knot_at f) (T : Tx K mg) (C_side_towards : Cal P w K mg base CX0 1 "side_towards" spSide) : Cal P w K mg base CX0 2 "knot_at" spAt := by
  refine F.cal sc_knot_at (fun _ _ _ _ _ _ us hl => match us, hl with | [_, _], _ => rfl) (fun vs H Q E h => ?_) (fun cdv A outer s H vs Q E hr h => ?_)
  · obtain ⟨v, t, k, rfl, _⟩ := h; rfl
  · obtain ⟨v, t, k, rfl, hv, q⟩ := h
    refine ⟨_, (bcons (swhile PassesOwn.never (QW.tst (wand (tcmp rIsNot (qv 0) qnon (nomark _)) (wand1 (tcmp (rNeq hr) (qix (xIx K) (qv 0) qint (fun _ _ => rfl)) (qv 1) (nomark _)))))
        (bone (sset (i := 0) sc_knot_at.nd rfl (by first | exact Or.inl rfl | exact Or.inr rfl) (qF C_side_towards (hr.mono (by omega)) pass0 rfl (qcons (qv 0) (qcons (qv 1) qnil))))))
      (bone (sret (qv 0)))), ?_⟩
    refine ⟨fun m σ H' => ∃ (v' : V) (t' : Tr), σ = [some v', some (.int k)] ∧ H' = H ∧ Rep H v' t'.d ∧ at_ k t' = at_ k t ∧ m = t'.ht, ⟨_, v, t, rfl, rfl, hv, rfl, rfl⟩, ?_⟩
    rintro m σ H1 ⟨v', t', rfl, rfl, hv', hat, rfl⟩
    cases t' with
    | nil =>
      cases rep_nil hv'
      refine ⟨_, rfl, rfl, _, rfl, ?_⟩
      refine ⟨_, rfl, q .non ?_⟩
      rw [← hat]; exact .non
    | node l x r =>
      obtain ⟨a, vl, vr, rfl, ea, hl, hr'⟩ := rep_node hv'
      refine ⟨_, rfl, rfl, _, rfl, ?_⟩
      refine iteT ?_
      refine ⟨_, rfl, a, _, 1, _, rfl, rfl, .inr (SqT.of ea), atI_nat (j := 1) rfl, _, rfl, _, rfl, ?_⟩
      by_cases hx : x = k
      · rw [decide_eq_true hx]
        refine iteF ?_
        refine ⟨_, rfl, q _ ?_⟩
        rw [← hat, at_, if_pos hx]; exact hv'
      · rw [decide_eq_false hx]
        refine iteT ?_
        refine ⟨fun σ' H' => ∃ m', m' < (Tr.node l x r).ht ∧ ∃ (v' : V) (t' : Tr), σ' = [some v', some (.int k)] ∧ H' = H1 ∧ Rep H1 v' t'.d ∧ at_ k t' = at_ k t ∧ m' = t'.ht, fun _ _ z => z, ?_⟩
        refine ⟨_, rfl, _, rfl, a, vl, vr, x, k, rfl, ea, ?_⟩
        have hv2 : Rep H1 (if k < x then vl else vr) (if k < x then l else r).d := by
          by_cases hk : k < x
          · rw [if_pos hk, if_pos hk]; exact hl
          · rw [if_neg hk, if_neg hk]; exact hr'
        refine ⟨_, ?_, _, _, rfl, rfl, hv2, ?_, rfl⟩
        · rw [Tr.ht]; split <;> omega
        · rw [← hat]
          conv => rhs; rw [at_, if_neg hx]
          split <;> rfl
theorem ok_kof {f : Addr} (F : Fd K mg "keys_of" s_keys_of f) (T : Tx K mg) : ∀ n, Cal P w K mg base CX0 n "keys_of" (spKof n) := by
  intro n
  induction n with
  | zero => exact (F.none (ps := ["tree"]) (fun _ _ _ _ _ _ us hl => match us, hl with | [_], _ => rfl) fun vs H Q E ⟨v, t, _, _, h2, _⟩ => by omega)
  | succ n C_keys_of =>
    refine F.cal sc_keys_of (fun _ _ _ _ _ _ us hl => match us, hl with | [_], _ => rfl) (fun vs H Q E h => ?_) (fun cdv A outer s H vs Q E hr h => ?_)
    · obtain ⟨v, t, rfl, _⟩ := h; rfl
    · obtain ⟨v, t, rfl, hv, ht, hz, q⟩ := h
      refine ⟨_, (bcons (sif (tcmp rIs (qv 0) qnon (nomark _)) (bone (sret (qlst qnil))) bnil)
      (bone (sret (qop rAdd (qop rAdd (qF C_keys_of (hr.mono (by omega)) pass0 rfl (qcons (qix (xIx K) (qv 0) qint (fun _ _ => rfl)) qnil)) (qlst (qcons (qix (xIx K) (qv 0) qint (fun _ _ => rfl)) qnil))) (qF C_keys_of (hr.mono (by omega)) pass0 rfl (qcons (qix (xIx K) (qv 0) qint (fun _ _ => rfl)) qnil)))))), ?_⟩
      cases t with
      | nil =>
        cases rep_nil hv
        exact ⟨_, rfl, rfl, _, rfl, (show 0 ≤ sizeLine by decide), fun r H1 n1 s1 e1 _ => q r H1 n1 s1 e1⟩
      | node l x r =>
        obtain ⟨a, vl, vr, rfl, ea, hl, hr'⟩ := rep_node hv
        simp only [Tr.ht] at ht
        simp only [Tr.size] at hz
        refine ⟨_, rfl, rfl, _, rfl, ?_⟩
        refine ⟨_, rfl, a, _, 0, _, rfl, rfl, .inr (SqT.of ea), atI_nat (j := 0) rfl, vl, l, rfl, hl, by omega, by omega, fun r1 H1 n1 s1 e1 => ?_⟩
        refine ⟨_, rfl, a, _, 1, _, rfl, rfl, .inr (SqT.of (s1 _ _ ea)), atI_nat (j := 1) rfl, (show 1 ≤ sizeLine by decide), fun r2 H2 n2 s2 e2 _ => ?_⟩
        have kl := Tr.keys_length l
        have kr := Tr.keys_length r
        refine ⟨_, _, s2 _ _ e1, e2, sizeBig' (by simp; omega), fun r3 H3 n3 s3 e3 _ => ?_⟩
        have s13 := (s1.trans s2).trans s3
        refine ⟨_, rfl, a, _, 2, _, rfl, rfl, .inr (SqT.of (s13 _ _ ea)), atI_nat (j := 2) rfl, vr, r, rfl, hr'.mono s13, by omega, by omega, fun r4 H4 n4 s4 e4 => ?_⟩
        refine ⟨_, _, s4 _ _ e3, e4, sizeBig' (by simp; omega), fun r5 H5 n5 s5 e5 _ => ?_⟩
        refine q r5 H5 ((s13.trans s4).free n5) ((s13.trans s4).trans s5) ?_
        rw [e5]; simp [Tr.keys]
theorem ok_wkey {f : Addr} (F : Fd K mg "with_key" s_with_key f) (T : Tx K mg) : ∀ n, Cal P w K mg base CX0 n "with_key" (spPut n) := by
  intro n
  induction n with
  | zero => exact F.none (ps := ["tree", "key"]) (fun _ _ _ _ _ _ us hl => match us, hl with | [_, _], _ => rfl) fun vs H Q E ⟨v, k, t, _, _, h2, _⟩ => by omega
  | succ n C_with_key =>
    refine F.cal sc_with_key (fun _ _ _ _ _ _ us hl => match us, hl with | [_, _], _ => rfl) (fun vs H Q E h => ?_) (fun cdv A outer s H vs Q E hr h => ?_)
    · obtain ⟨v, k, t, rfl, _⟩ := h; rfl
    · obtain ⟨v, k, t, rfl, hv, ht, q⟩ := h
      refine ⟨_, (bcons (sif (tcmp rIs (qv 0) qnon (nomark _)) (bone (sret (qtup (qcons qnon (qcons (qv 1) (qcons qnon qnil)))))) bnil)
      (bcons (sif (tcmp rLt (qv 1) (qix (xIx K) (qv 0) qint (fun _ _ => rfl)) (nomark _)) (bone (sret (qtup (qcons (qF C_with_key (hr.mono (by omega)) pass0 rfl (qcons (qix (xIx K) (qv 0) qint (fun _ _ => rfl)) (qcons (qv 1) qnil))) (qcons (qix (xIx K) (qv 0) qint (fun _ _ => rfl)) (qcons (qix (xIx K) (qv 0) qint (fun _ _ => rfl)) qnil)))))) bnil)
      (bone (sret (qtup (qcons (qix (xIx K) (qv 0) qint (fun _ _ => rfl)) (qcons (qix (xIx K) (qv 0) qint (fun _ _ => rfl)) (qcons (qF C_with_key (hr.mono (by omega)) pass0 rfl (qcons (qix (xIx K) (qv 0) qint (fun _ _ => rfl)) (qcons (qv 1) qnil))) qnil)))))))), ?_⟩
      cases t with
      | nil =>
        cases rep_nil hv
        refine ⟨_, rfl, rfl, _, rfl, ?_⟩
        exact ⟨_, rfl, (show 3 ≤ sizeLine by decide), fun a H1 n1 s1 e1 _ => q _ _ s1 (rep_mk e1 .non .non)⟩
      | node l x r =>
        obtain ⟨a, vl, vr, rfl, ea, hl, hr'⟩ := rep_node hv
        refine ⟨_, rfl, rfl, _, rfl, ?_⟩
        refine ⟨_, rfl, _, rfl, a, _, 1, _, rfl, rfl, .inr (SqT.of ea), atI_nat (j := 1) rfl, _, _, rfl, rfl, _, rfl, ?_⟩
        simp only [Tr.ht] at ht
        refine ite2 (fun hlt => ?_) (fun hlt => ?_)
        · have hlt : k < x := of_decide_eq_true hlt
          refine ⟨_, rfl, a, _, 0, _, rfl, rfl, .inr (SqT.of ea), atI_nat (j := 0) rfl, _, rfl, vl, k, l, rfl, hl, by omega, fun r1 H1 s1 g1 => ?_⟩
          have ea1 := s1 _ _ ea
          refine ⟨_, rfl, a, _, 1, _, rfl, rfl, .inr (SqT.of ea1), atI_nat (j := 1) rfl, _, rfl, a, _, 2, _, rfl, rfl, .inr (SqT.of ea1), atI_nat (j := 2) rfl, (show 3 ≤ sizeLine by decide), fun a2 H2 n2 s2 e2 _ => ?_⟩
          refine q _ _ (s1.trans s2) ?_
          rw [Tr.ins, if_pos hlt]
          exact rep_mk e2 (g1.mono s2) (hr'.mono (s1.trans s2))
        · have hlt : ¬ k < x := fun z => hlt (decide_eq_true z)
          refine ⟨_, rfl, a, _, 0, _, rfl, rfl, .inr (SqT.of ea), atI_nat (j := 0) rfl, _, rfl, a, _, 1, _, rfl, rfl, .inr (SqT.of ea), atI_nat (j := 1) rfl, _, rfl, a, _, 2, _, rfl, rfl, .inr (SqT.of ea), atI_nat (j := 2) rfl, _, rfl, vr, k, r, rfl, hr', by omega, fun r1 H1 s1 g1 => ?_⟩
          refine ⟨(show 3 ≤ sizeLine by decide), fun a2 H2 n2 s2 e2 _ => ?_⟩
          refine q _ _ (s1.trans s2) ?_
          rw [Tr.ins, if_neg hlt]
          exact rep_mk e2 (hl.mono (s1.trans s2)) (g1.mono s2)
theorem ok_putE {f cH cF : Addr} (F : Fd K mg "put" s_put f) (T : Tx K mg) (R_There : ErrK K mg "There" cH) (R_Full : ErrK K mg "Full" cF) (C_knot_at : Cal P w K mg base CX0 2 "knot_at" spAt) (C_keys_of : Cal P w K mg base CX0 82 "keys_of" (spKof 82)) (C_with_key : Cal P w K mg base CX0 80 "with_key" (spPut 80)) : Cal P w K mg base (CXE P w) 83 "put" (spPutE cH cF) := by
  refine F.calE sc_put (fun _ _ _ _ _ _ us hl => match us, hl with | [_, _], _ => rfl) (fun vs H Q E h => ?_) (fun cdv A outer s H vs Q E hr h => ?_)
  · obtain ⟨v, k, t, rfl, _⟩ := h; rfl
  · obtain ⟨v, k, t, rfl, hv, ht, hz, ho, h1, h2, h3⟩ := h
    have hl := Tr.keys_length t
    refine ⟨_, (bcons (sif (tcmp rIsNot (qF C_knot_at (hr.mono (by omega)) pass0 rfl (qcons (qv 0) (qcons (qv 1) qnil))) qnon (nomark _)) (bone (sraise R_There rfl (qcons qstr qnil))) bnil)
      (bcons (sif (tcmp rGe (qB (fLen K) rfl T.b_len bt_len (qcons (qF C_keys_of (hr.mono (by omega)) pass0 rfl (qcons (qv 0) qnil)) qnil)) (qglobI rfl T.g_MOST_KEYS) (nomark _)) (bone (sraise R_Full rfl (qcons qstr qnil))) bnil)
      (bone (snox (sret (qF C_with_key (hr.mono (by omega)) pass0 rfl (qcons (qv 0) (qcons (qv 1) qnil)))))))), ?_⟩
    refine ⟨_, rfl, _, rfl, v, t, k, rfl, hv, fun v' g' => ?_⟩
    by_cases hk : k ∈ t.keys
    · have hne := at_ne k t _ _ ho hk
      cases ht' : at_ k t with
      | nil => exact absurd ht' hne
      | node l x r =>
        rw [ht'] at g'
        obtain ⟨a, vl, vr, rfl, ea, _, _⟩ := rep_node g'
        refine ⟨rfl, _, rfl, ?_⟩
        refine iteT ?_
        exact ⟨(show 1 ≤ sizeLine by decide), h1 hk⟩
    · have hnil : at_ k t = .nil := Classical.byContradiction fun z => hk (at_mem z)
      rw [hnil] at g'
      cases rep_nil g'
      refine ⟨rfl, _, rfl, ?_⟩
      refine iteF ?_
      refine ⟨_, rfl, v, t, rfl, hv, by omega, by omega, fun r1 H1 n1 s1 e1 => ?_⟩
      refine ⟨r1, _, rfl, .inl (SqL.of e1), _, _, rfl, rfl, _, rfl, ?_⟩
      rw [List.length_map]
      by_cases hs : 60 ≤ t.size
      · rw [decide_eq_true (show (60 : Int) ≤ ((t.keys.length : Nat) : Int) by omega)]
        refine iteT ?_
        exact ⟨(show 1 ≤ sizeLine by decide), h2 hk hs H1 s1⟩
      · rw [decide_eq_false (show ¬ (60 : Int) ≤ ((t.keys.length : Nat) : Int) by omega)]
        refine iteF ?_
        exact ⟨_, rfl, _, rfl, v, k, t, rfl, hv.mono s1, ht, fun r H' s' g => h3 hk (by omega) r H' (s1.trans s') g⟩
theorem ok_tofE {f cT : Addr} (F : Fd K mg "tree_of" s_tree_of f) (T : Tx K mg) (R_NoTree : ErrK K mg "NoTree" cT) (C_with_key : Cal P w K mg base CX0 80 "with_key" (spPut 80)) : Cal P w K mg base (CXE P w) 81 "tree_of" (spTofE cT) := by
  refine F.calE sc_tree_of (fun _ _ _ _ _ _ us hl => match us, hl with | [_], _ => rfl) (fun vs H Q E h => ?_) (fun cdv A outer s H vs Q E hr h => ?_)
  · obtain ⟨a, xs, rfl, _⟩ := h; rfl
  · obtain ⟨a, xs, rfl, ea, hl, h1, q⟩ := h
    refine ⟨_, (bcons (sif (tcmp rLt (qLenSetX K rfl T.b_len rfl T.b_set (qcons (qv 0) qnil)) (qB (fLen K) rfl T.b_len bt_len (qcons (qv 0) qnil)) (nomark _)) (bone (sraise R_NoTree rfl (qcons qstr qnil))) bnil)
      (bcons (snox (sset (i := 1) sc_tree_of.nd rfl (by first | exact Or.inl rfl | exact Or.inr rfl) qnon))
      (bcons (snox (sfor PassesOwn.never rfl (iseq K (qv 0)) (gname (i := 2) sc_tree_of.nd rfl (by first | exact Or.inl rfl | exact Or.inr rfl))
        (bone (sset (i := 1) sc_tree_of.nd rfl (by first | exact Or.inl rfl | exact Or.inr rfl) (qF C_with_key (hr.mono (by omega)) pass0 rfl (qcons (qv 1) (qcons (qv 2) qnil)))))))
      (bone (snox (sret (qv 1))))))), ?_⟩
    refine ⟨_, rfl, a, xs, rfl, SqL.of ea, by omega, fun m hle hm => ?_⟩
    refine ⟨_, rfl, a, _, rfl, .inl (SqL.of ea), _, _, rfl, rfl, _, rfl, ?_⟩
    rw [List.length_map]
    by_cases hn : xs.Nodup
    · have hm := hm.mpr hn
      subst hm
      rw [decide_eq_false (show ¬ ((xs.length : Nat) : Int) < ((xs.length : Nat) : Int) by omega)]
      refine iteF ?_
      refine ⟨_, rfl, a, rfl, .inl ⟨⟨_, SqL.of ea⟩, for_list (xs := xs.map V.int) (fun i σ H' => ∃ v z, σ = [some (.ref a), some v, z] ∧ Same H H' ∧ Rep H' v ((xs.take i).foldl (fun t x => t.ins x) Tr.nil).d)
        ⟨.non, none, rfl, Same.refl _, .non⟩ (fun i σ H' _ ⟨_, _, _, s', _⟩ => SqL.of (s' _ _ ea)) ?_ ?_⟩⟩
      · rintro i y σ H1 hy ⟨v, z, rfl, s1, g1⟩
        rw [List.getElem?_map] at hy
        obtain ⟨k, hk, rfl⟩ := Option.map_eq_some_iff.mp hy
        have hi := (List.getElem?_eq_some_iff.mp hk).1
        have hsz := Tr.size_foldl (xs.take i) Tr.nil
        rw [List.length_take] at hsz
        have hht := Tr.ht_size ((xs.take i).foldl (fun t x => t.ins x) Tr.nil)
        have h0 : Tr.nil.size = 0 := rfl
        refine ⟨_, rfl, _, rfl, v, k, _, rfl, g1, by omega, fun r H2 s2 g2 => ?_⟩
        refine ⟨r, _, rfl, s1.trans s2, ?_⟩
        rw [List.take_add_one, hk, List.foldl_append]
        exact g2
      · rintro σ H1 ⟨v, z, rfl, s1, g1⟩
        rw [List.length_map, List.take_length] at g1
        exact ⟨_, rfl, q hn v H1 s1 g1⟩
    · have hne : m ≠ xs.length := fun z => hn (hm.mp z)
      rw [decide_eq_true (show ((m : Nat) : Int) < ((xs.length : Nat) : Int) by omega)]
      refine iteT ?_
      exact ⟨(show 1 ≤ sizeLine by decide), h1 hn⟩
end
end K02
namespace K02
open PySem L2 L3
structure Knd (K : PySem.W.Frag) (cT cH cF cN cM cX cW c : Addr) (b1 b2 b3 : Bool) : Prop where
  k1 : PySem.W.kitOne K (.ref c) (.ref cT) = some b1
  k2 : PySem.W.kitOne K (.ref c) (.ref cH) = some b2
  k3 : PySem.W.kitOne K (.ref c) (.ref cF) = some b3
  k4 : PySem.W.kitAny K (.ref c) (([cN, cM, cX, cW] : List Addr).map Value.ref) = some false
  k5 : PySem.W.kitOne K (.ref c) (.type "ValueError") = some true
  fc : ExcF K c
structure Er (K : PySem.W.Frag) (mg : Str → Option Value) (cL cT cH cF cN cM cX cW : Addr) : Prop where
  eL : ErrK K mg "LeafError" cL
  eT : ErrK K mg "NoTree" cT
  eH : ErrK K mg "There" cH
  eF : ErrK K mg "Full" cF
  eN : mg "NotThere" = some (.ref cN)
  eM : mg "NoRoom" = some (.ref cM)
  eX : mg "NoText" = some (.ref cX)
  eW : mg "NoRow" = some (.ref cW)
  xT : PySem.W.exmOne K (.ref cT) (.ref cL) = some true
  xH : PySem.W.exmOne K (.ref cH) (.ref cL) = some true
  xF : PySem.W.exmOne K (.ref cF) (.ref cL) = some true
  nT : Knd K cT cH cF cN cM cX cW cT true false false
  nH : Knd K cT cH cF cN cM cX cW cH false true false
  nF : Knd K cT cH cF cN cM cX cW cF false false true
structure At (mg : Str → Option Value) (x : Str) (C : Addr) : Prop where
  at_ : mg x = some (.ref C)
def knd (b1 b2 : Bool) : Str := if b1 then "no tree" else if b2 then "there" else "full"
def spKind (K : PySem.W.Frag) (cT cH cF cN cM cX cW : Addr) : Sp := fun vs H Q _ => ∃ (ea c : Addr) (b1 b2 b3 : Bool), vs = [.ref ea] ∧ H ea = some (excE ea c) ∧ Knd K cT cH cF cN cM cX cW c b1 b2 b3 ∧ [b1, b2, b3].countP id = 1 ∧ ∀ H', Same H H' → Q (.str (knd b1 b2)) H'
def spMade : Sp := fun vs H Q _ => ∃ (a : Addr) (xs : List Int), vs = [.ref a] ∧ H a = some (.lst (xs.map V.int)) ∧ xs.length ≤ 61 ∧ (¬ xs.Nodup → ∀ H', Same H H' → Q (.str "no tree") H') ∧ (xs.Nodup → ∀ (r : V) (H' : Hp), Same H H' → Rep H' r (Tr.build xs).d → Q r H')
def spLPut : Sp := fun vs H Q _ => ∃ (v : V) (k : Int) (t : Tr), vs = [v, .int k] ∧ Rep H v (Tr.d t) ∧ t.ht < 80 ∧ t.size ≤ 1000 ∧ t.ord none none ∧ (k ∈ t.keys → ∀ H', Same H H' → Q (.str "there") H') ∧
  (k ∉ t.keys → 60 ≤ t.size → ∀ H', Same H H' → Q (.str "full") H') ∧ (k ∉ t.keys → t.size < 60 → ∀ (r : V) (H' : Hp), Same H H' → Rep H' r (t.ins k).d → Q r H')
def spPlain (n : Nat) : Sp := fun vs H Q _ => ∃ (v : V) (t : Tr), vs = [v] ∧ Rep H v t.d ∧ t.ht < n ∧ Q (.bl true) H
def spTold : Sp := fun vs H Q _ => ∃ (v : V) (d : Addr) (t : Tr), vs = [v, .ref d] ∧ Rep H v t.d ∧ t.ht < 82 ∧ t.size ≤ 1000 ∧ H d = some (.lst (t.keys.map V.int)) ∧ ∀ H', Same H H' → Q (.bl true) H'
section
variable {P : Program} {w : World} {K : PySem.W.Frag} {mg : Str → Option Value} {base : Heap}
theorem ok_kind {f cL cT cH cF cN cM cX cW : Addr} (F : Fd K mg "_law_kind" s_law_kind f) (T : Tx K mg) (R : Er K mg cL cT cH cF cN cM cX cW) : CalH P w K mg base 1 "_law_kind" (spKind K cT cH cF cN cM cX cW) := by
  have R_NoTree := R.eT
  have R_There := R.eH
  have R_Full := R.eF
  have R_NotThere : At mg "NotThere" cN := ⟨R.eN⟩
  have R_NoRoom : At mg "NoRoom" cM := ⟨R.eM⟩
  have R_NoText : At mg "NoText" cX := ⟨R.eX⟩
  have R_NoRow : At mg "NoRow" cW := ⟨R.eW⟩
  refine F.calH sc_law_kind (fun _ _ _ _ _ _ us hl => match us, hl with | [_], _ => rfl) (fun vs H Q E h => ?_) (fun cdv A outer s H vs Q E hr h => ?_)
  · obtain ⟨ea, c, b1, b2, b3, rfl, _⟩ := h; rfl
  · obtain ⟨ea, c, b1, b2, b3, rfl, ee, kn, hc, q⟩ := h
    refine ⟨_, (bcons (sset (i := 1) sc_law_kind.nd rfl (by first | exact Or.inl rfl | exact Or.inr rfl) (qlst (qcons (qB (fIsE K) rfl T.b_isinstance bt_isinstance (qcons (qv 0) (qcons (qcl rfl R_NoTree.at_) qnil))) (qcons (qB (fIsE K) rfl T.b_isinstance bt_isinstance (qcons (qv 0) (qcons (qcl rfl R_There.at_) qnil))) (qcons (qB (fIsE K) rfl T.b_isinstance bt_isinstance (qcons (qv 0) (qcons (qcl rfl R_Full.at_) qnil))) qnil)))))
      (bcons (sexpr (qBm K PySem.F.plainAttrs_list PySem.F.slot_list_append PySem.F.type_list_append mAppend (qv 1) (qcons (qB (fIsE K) rfl T.b_isinstance bt_isinstance (qcons (qv 0) (qcons (qtup (qcons (qcl rfl R_NotThere.at_) (qcons (qcl rfl R_NoRoom.at_) (qcons (qcl rfl R_NoText.at_) (qcons (qcl rfl R_NoRow.at_) qnil))))) qnil))) qnil)))
      (bcons (sif (QW.tst (wor (tcmp (rNeqU hr) (qBm K PySem.F.plainAttrs_list PySem.F.slot_list_count PySem.F.type_list_count mCntB (qv 1) (qcons qbl qnil)) qint (nomark _)) (wor1 (tnot (ttru K (qB (fIsE K) rfl T.b_isinstance bt_isinstance (qcons (qv 0) (qcons (qty rfl T.b_ValueError bt_ValueError) qnil))) (fun _ => rfl)))))) (bone (sret qstr)) bnil)
      (bone (sret (qix (xIx K) (qlst (qcons qstr (qcons qstr (qcons qstr (qcons qstr qnil))))) (qBm K PySem.F.plainAttrs_list PySem.F.slot_list_index PySem.F.type_list_index mIdxB (qv 1) (qcons qbl qnil)) (fun _ _ => rfl))))))), ?_⟩
    refine ⟨_, rfl, ea, c, _, rfl, ee, kn.fc, .inr (.inl ⟨cT, b1, rfl, kn.k1, ?_⟩)⟩
    refine ⟨_, rfl, ea, c, _, rfl, ee, kn.fc, .inr (.inl ⟨cH, b2, rfl, kn.k2, ?_⟩)⟩
    refine ⟨_, rfl, ea, c, _, rfl, ee, kn.fc, .inr (.inl ⟨cF, b3, rfl, kn.k3, (show 3 ≤ sizeLine by decide), fun l1 H1 n1 s1 e1 _ => ?_⟩)⟩
    refine ⟨_, rfl, .inl ⟨rfl, _, SqL.of e1⟩, _, rfl, (show 4 ≤ sizeLine by decide), fun tp H2 n2 s2 e2 _ => ?_⟩
    refine ⟨ea, c, _, rfl, (s1.trans s2) _ _ ee, kn.fc, .inr (.inr ⟨tp, [cN, cM, cX, cW], false, rfl, e2, kn.k4, ?_⟩)⟩
    have e12 := s2 _ _ e1
    refine ⟨l1, _, _, rfl, rfl, e12, (show 3 < sizeLine by decide), ?_⟩
    have sA : Same H (upd H2 l1 (.lst ([V.bl b1, V.bl b2, V.bl b3] ++ [V.bl false]))) := same_upd (s1.trans s2) n1
    have eA : upd H2 l1 (.lst ([V.bl b1, V.bl b2, V.bl b3] ++ [V.bl false])) l1 = some (.lst ([b1, b2, b3, false].map V.bl)) := upd_same
    generalize upd H2 l1 (.lst ([V.bl b1, V.bl b2, V.bl b3] ++ [V.bl false])) = H3 at *
    refine ⟨_, rfl, .inl ⟨rfl, _, SqL.of eA⟩, l1, _, rfl, rfl, eA, ?_⟩
    have hcc : [b1, b2, b3, false].countP id = 1 := by revert hc; cases b1 <;> cases b2 <;> cases b3 <;> decide
    rw [hcc]
    refine ⟨false, rfl, ?_⟩
    refine iteF ?_
    refine ⟨_, rfl, ea, c, _, rfl, sA _ _ ee, kn.fc, .inl ⟨"ValueError", true, rfl, kn.k5, ?_⟩⟩
    refine ⟨true, rfl, ?_⟩
    refine iteF ?_
    refine ⟨(show 4 ≤ sizeLine by decide), fun l4 H4 n4 s4 e4 _ => ?_⟩
    have hmem : true ∈ [b1, b2, b3, false] := by revert hc; cases b1 <;> cases b2 <;> cases b3 <;> decide
    refine ⟨_, rfl, .inl ⟨rfl, _, SqL.of (s4 _ _ eA)⟩, l1, _, rfl, rfl, s4 _ _ eA, hmem, (show 4 ≤ 1000 by decide), ?_⟩
    refine ⟨l4, _, _, .str (knd b1 b2), rfl, rfl, .inl (SqL.of e4), ?_, q H4 (sA.trans s4)⟩
    revert hc
    cases b1 <;> cases b2 <;> cases b3 <;> intro hc <;> first | exact atI_nat (j := 0) rfl | exact atI_nat (j := 1) rfl | exact atI_nat (j := 2) rfl | exact absurd hc (by decide)
theorem ok_made {f cL cT cH cF cN cM cX cW : Addr} (F : Fd K mg "_law_made" s_law_made f) (T : Tx K mg) (R : Er K mg cL cT cH cF cN cM cX cW) (C_tree_of : Cal P w K mg base (CXE P w) 81 "tree_of" (spTofE cT)) (C_law_kind : CalH P w K mg base 1 "_law_kind" (spKind K cT cH cF cN cM cX cW)) : Cal P w K mg base CX0 82 "_law_made" spMade := by
  have R_LeafError := R.eL
  refine F.cal sc_law_made (fun _ _ _ _ _ _ us hl => match us, hl with | [_], _ => rfl) (fun vs H Q E h => ?_) (fun cdv A outer s H vs Q E hr h => ?_)
  · obtain ⟨a, xs, rfl, _⟩ := h; rfl
  · obtain ⟨a, xs, rfl, ea, hl, q1, q2⟩ := h
    refine ⟨_, (bone (stry (i := 1) K (xret C_tree_of (hr.mono (by omega)) rfl (qcons (qv 0) qnil)) rfl R_LeafError.at_ sc_law_made.nd rfl rfl rfl rfl (fun _ => (bone (sret (qFH C_law_kind (roomH (hr.mono (by omega)) _) rfl (qcons (qv 1) qnil))))))), ?_⟩
    refine ⟨_, rfl, a, xs, rfl, ea, hl, fun hn => ⟨R.xT, fun e c he n => ?_⟩, fun hn r H' s g => q2 hn r H' s g⟩
    cases he
    refine ⟨_, rfl, e, cT, true, false, false, rfl, upd_same, R.nT, rfl, fun H' s => q1 hn H' ((same_new n).trans s)⟩
theorem ok_lput {f cL cT cH cF cN cM cX cW : Addr} (F : Fd K mg "_law_put" s_law_put f) (T : Tx K mg) (R : Er K mg cL cT cH cF cN cM cX cW) (C_put : Cal P w K mg base (CXE P w) 83 "put" (spPutE cH cF)) (C_law_kind : CalH P w K mg base 1 "_law_kind" (spKind K cT cH cF cN cM cX cW)) : Cal P w K mg base CX0 84 "_law_put" spLPut := by
  have R_LeafError := R.eL
  refine F.cal sc_law_put (fun _ _ _ _ _ _ us hl => match us, hl with | [_, _], _ => rfl) (fun vs H Q E h => ?_) (fun cdv A outer s H vs Q E hr h => ?_)
  · obtain ⟨v, k, t, rfl, _⟩ := h; rfl
  · obtain ⟨v, k, t, rfl, hv, ht, hz, ho, q1, q2, q3⟩ := h
    refine ⟨_, (bone (stry (i := 2) K (xret C_put (hr.mono (by omega)) rfl (qcons (qv 0) (qcons (qv 1) qnil))) rfl R_LeafError.at_ sc_law_put.nd rfl rfl rfl rfl (fun _ => (bone (sret (qFH C_law_kind (roomH (hr.mono (by omega)) _) rfl (qcons (qv 2) qnil))))))), ?_⟩
    refine ⟨_, rfl, _, rfl, v, k, t, rfl, hv, ht, hz, ho, fun hk => ⟨R.xH, fun e c he n => ?_⟩, fun hk hs H1 s1 => ⟨R.xF, fun e c he n => ?_⟩, fun hk hs r H' s g => q3 hk hs r H' s g⟩
    · cases he
      refine ⟨_, rfl, e, cH, false, true, false, rfl, upd_same, R.nH, rfl, fun H' s => q1 hk H' ((same_new n).trans s)⟩
    · cases he
      refine ⟨_, rfl, e, cF, false, false, true, rfl, upd_same, R.nF, rfl, fun H' s => q2 hk hs H' (s1.trans ((same_new n).trans s))⟩
theorem ok_plain {f : Addr} (F : Fd K mg "_law_plain" s_law_plain f) (T : Tx K mg) : ∀ n, Cal P w K mg base CX0 n "_law_plain" (spPlain n) := by
  intro n
  induction n with
  | zero => exact (F.none (ps := ["_law_thing"]) (fun _ _ _ _ _ _ us hl => match us, hl with | [_], _ => rfl) fun vs H Q E ⟨v, t, _, _, h2, _⟩ => by omega)
  | succ n C_law_plain =>
    refine F.cal sc_law_plain (fun _ _ _ _ _ _ us hl => match us, hl with | [_], _ => rfl) (fun vs H Q E h => ?_) (fun cdv A outer s H vs Q E hr h => ?_)
    · obtain ⟨v, t, rfl, _⟩ := h; rfl
    · obtain ⟨v, t, rfl, hv, ht, q⟩ := h
      refine ⟨_, (bcons (sif (tcmp rIs (qv 0) qnon (nomark _)) (bone (sret qbl)) bnil)
      (bcons (sif (QW.tst (wor (tnot (ttru K (qB (fIsi K) rfl T.b_isinstance bt_isinstance (qcons (qv 0) (qcons (qty rfl T.b_tuple bt_tuple) qnil))) (fun _ => rfl))) (wor (tnot (ttru K (qB (fIsi K) rfl T.b_isinstance bt_isinstance (qcons (qix (xIx K) (qv 0) qint (fun _ _ => rfl)) (qcons (qty rfl T.b_int bt_int) qnil))) (fun _ => rfl))) (wor1 (ttru K (qB (fIsi K) rfl T.b_isinstance bt_isinstance (qcons (qix (xIx K) (qv 0) qint (fun _ _ => rfl)) (qcons (qty rfl T.b_bool bt_bool) qnil))) (fun _ => rfl)))))) (bone (sret qbl)) bnil)
      (bone (sret (qand K (qF C_law_plain (hr.mono (by omega)) pass0 rfl (qcons (qix (xIx K) (qv 0) qint (fun _ _ => rfl)) qnil)) (qone (qF C_law_plain (hr.mono (by omega)) pass0 rfl (qcons (qix (xIx K) (qv 0) qint (fun _ _ => rfl)) qnil)))))))), ?_⟩
      cases t with
      | nil =>
        cases rep_nil hv
        exact ⟨_, rfl, rfl, _, rfl, q⟩
      | node l k r =>
        obtain ⟨a, vl, vr, rfl, ea, hl, hr'⟩ := rep_node hv
        simp only [Tr.ht] at ht
        refine ⟨_, rfl, rfl, _, rfl, ?_⟩
        refine iteF ?_
        refine ⟨_, rfl, .ref a, _, _, _, rfl, hv.ty, kit_tuple K _, _, rfl, ?_⟩
        refine iteF ?_
        refine ⟨_, rfl, a, _, 1, _, rfl, rfl, .inr (SqT.of ea), atI_nat (j := 1) rfl, .int k, _, _, _, rfl, (Rep.int (H := H) k).ty, kit_int K (.int k), _, rfl, ?_⟩
        refine iteF ?_
        refine ⟨_, rfl, a, _, 1, _, rfl, rfl, .inr (SqT.of ea), atI_nat (j := 1) rfl, .int k, _, _, _, rfl, (Rep.int (H := H) k).ty, kit_bool K (.int k), _, rfl, ?_⟩
        refine iteF ?_
        refine ⟨_, rfl, a, _, 0, _, rfl, rfl, .inr (SqT.of ea), atI_nat (j := 0) rfl, vl, l, rfl, hl, by omega, ?_⟩
        refine ⟨true, rfl, ?_⟩
        refine iteT ?_
        exact ⟨_, rfl, a, _, 2, _, rfl, rfl, .inr (SqT.of ea), atI_nat (j := 2) rfl, vr, r, rfl, hr', by omega, q⟩
theorem ok_told {f : Addr} (F : Fd K mg "_law_told" s_law_told f) (T : Tx K mg) (C_keys_of : Cal P w K mg base CX0 82 "keys_of" (spKof 82)) : Cal P w K mg base CX0 83 "_law_told" spTold := by
  refine F.cal sc_law_told (fun _ _ _ _ _ _ us hl => match us, hl with | [_, _], _ => rfl) (fun vs H Q E h => ?_) (fun cdv A outer s H vs Q E hr h => ?_)
  · obtain ⟨v, d, t, rfl, _⟩ := h; rfl
  · obtain ⟨v, d, t, rfl, hv, ht, hz, ed, q⟩ := h
    have hl := Tr.keys_length t
    refine ⟨_, (bcons (sset (i := 2) sc_law_told.nd rfl (by first | exact Or.inl rfl | exact Or.inr rfl) (qF C_keys_of (hr.mono (by omega)) pass0 rfl (qcons (qv 0) qnil)))
      (bcons (sif (QW.tst (wor (tnot (ttru K (qB (fIsi K) rfl T.b_isinstance bt_isinstance (qcons (qv 2) (qcons (qty rfl T.b_list bt_list) qnil))) (fun _ => rfl))) (wor1 (tcmp (rNeq hr) (qv 2) (qv 1) (nomark _))))) (bone (sret qbl)) bnil)
      (bcons (sexpr (qBm K PySem.F.plainAttrs_list PySem.F.slot_list_append PySem.F.type_list_append mAppend (qv 2) (qcons qint qnil)))
      (bone (sret (qcmp (rEqq hr) (qF C_keys_of (hr.mono (by omega)) pass0 rfl (qcons (qv 0) qnil)) (qv 1) (nomark _))))))), ?_⟩
    refine ⟨_, rfl, v, t, rfl, hv, by omega, hz, fun r1 H1 n1 s1 e1 => ?_⟩
    refine ⟨_, rfl, .ref r1, _, _, _, rfl, (rep_ints e1).ty, kit_list K _, _, rfl, ?_⟩
    refine iteF ?_
    refine ⟨_, rfl, _, rfl, ?_⟩
    refine ne_ints e1 (s1 _ _ ed) ?_
    refine ⟨_, rfl, ?_⟩
    rw [decide_eq_true rfl]
    refine iteF ?_
    refine ⟨_, rfl, .inl ⟨rfl, _, SqL.of e1⟩, r1, _, _, rfl, rfl, e1, sizeBig (by rw [List.length_map]; omega), ?_⟩
    have sA : Same H (upd H1 r1 (.lst (t.keys.map V.int ++ [V.int 0]))) := same_upd s1 n1
    refine ⟨_, rfl, v, t, rfl, hv.mono sA, by omega, hz, fun r2 H2 n2 s2 e2 => ?_⟩
    refine ⟨_, rfl, ?_⟩
    refine eq_ints e2 ((sA.trans s2) _ _ ed) ?_
    rw [decide_eq_true rfl]
    exact q H2 (sA.trans s2)
end
end K02
namespace K02
open PySem L2 L3
theorem pure_tr : ∀ t : Tr, t.d.pure = true
  | .nil => rfl
  | .node l k r => by
    show (l.d.pure && (true && (r.d.pure && true))) = true
    rw [pure_tr l, pure_tr r]; rfl
theorem ne_tr {H : Hp} {t : Tr} {v u : V} {Q : VK} (hv : Rep H v t.d) (hu : Rep H u t.d) (hd : t.ht ≤ 140) (h : Q (.bl false) H) : rNeG 150 v u H Q := by
  have hdp : t.d.dep ≤ 140 := Nat.le_trans (Tr.dep_d t) hd
  cases t with
  | nil =>
    cases rep_nil hv
    cases rep_nil hu
    refine ⟨.non, .non, .non, .non, rfl, rfl, Nat.zero_le _, ?_⟩
    rw [D.eqv_refl]; exact h
  | node l k r =>
    obtain ⟨a, _, _, rfl, _⟩ := rep_node hv
    obtain ⟨b, _, _, rfl, _⟩ := rep_node hu
    exact ne_same hv hu (pure_tr _) hdp h
theorem sort_keys {t : Tr} {xs ns : List Int} (o1 : t.ord none none) (o3 : ∀ y, y ∈ t.keys ↔ y ∈ xs) (nd : xs.Nodup) (hp : ns.Perm xs) (h2 : ns.Pairwise (· ≤ ·)) : ns = t.keys := by
  have h1 := ord_rise t none none o1
  have hnn : ns.Nodup := hp.nodup_iff.mpr nd
  have hpk : ns.Perm t.keys := (List.perm_ext_iff_of_nodup hnn (h1.imp (fun h => by omega))).mpr fun y => by rw [hp.mem_iff, o3]
  exact hpk.eq_of_pairwise (fun a b _ _ h h' => by omega) h2 (h1.imp (fun h => by omega))
theorem nd_le : ∀ {xs ys : List Int}, xs.Nodup → (∀ z ∈ xs, z ∈ ys) → xs.length ≤ ys.length
  | [], _, _, _ => Nat.zero_le _
  | x :: xs, ys, nd, h => by
    have hx := h x (by simp)
    have h1 := nd_le (xs := xs) (ys := ys.erase x) (List.nodup_cons.mp nd).2 fun z hz => by
      have hne : z ≠ x := fun e => (List.nodup_cons.mp nd).1 (e ▸ hz)
      exact (List.mem_erase_of_ne hne).mpr (h z (List.mem_cons_of_mem _ hz))
    have h2 := List.length_erase_of_mem hx
    have h3 := List.length_pos_of_mem hx
    rw [List.length_cons]; omega
theorem all_in {n : Nat} {xs : List Int} (R : Ranks n xs) {y : Int} (h0 : 0 ≤ y) (h1 : y < n) : y ∈ xs := by
  refine Classical.byContradiction fun hy => ?_
  have nd : (y :: xs).Nodup := List.nodup_cons.mpr ⟨hy, R.nd⟩
  have sub : (y :: xs).length ≤ (upN n).length := nd_le nd fun z hz => by
    rcases List.mem_cons.mp hz with rfl | hz
    · exact mem_upN.mpr ⟨h0, h1⟩
    · exact mem_upN.mpr (R.bd z hz)
  rw [upN_length, List.length_cons, R.len] at sub
  omega
theorem not_nd {l1 l2 : List Int} {x : Int} (h : x ∈ l1) : ¬ (l1 ++ [x] ++ l2).Nodup := fun z => (List.nodup_append.mp (List.nodup_append.mp z).1).2.2 x h x (by simp) rfl
def spLaw (K : PySem.W.Frag) : Sp := fun vs H Q _ => ∃ (a : Addr) (ns : List Int), vs = [.ref a] ∧ SqL K H a (ns.map V.int) ∧ ns.length ≤ 63 ∧ ∀ H', Q (.bl true) H'
section
variable {P : Program} {w : World} {K : PySem.W.Frag} {mg : Str → Option Value} {base : Heap}
theorem ok_law {f : Addr} {fd : FuncData} (F : Fun K "law" "law" s_law f fd) (T : Tx K mg) (C_law_pen : Cal P w K mg base CX0 1 "_law_pen" (spPen K)) (C_law_take : Cal P w K mg base CX0 1 "_law_take" spTake) (C_law_keys : Cal P w K mg base CX0 74 "_law_keys" spKeys) (C_law_tree : Cal P w K mg base CX0 71 "_law_tree" spTree) (C_law_ranks : Cal P w K mg base CX0 72 "_law_ranks" spRanks)
    (C_law_made : Cal P w K mg base CX0 82 "_law_made" spMade) (C_law_put : Cal P w K mg base CX0 84 "_law_put" spLPut) (C_law_plain : Cal P w K mg base CX0 80 "_law_plain" (spPlain 80)) (C_law_told : Cal P w K mg base CX0 83 "_law_told" spTold) : FnOk P w K mg base CX0 91 f fd ["_law_script"] (spLaw K) := by
  refine okQ F sc_law (fun vs H Q E h => ?_) (fun cdv A outer s H vs Q E hr h => ?_)
  · obtain ⟨a, ns, rfl, _⟩ := h; rfl
  · obtain ⟨a, ns, rfl, ha, hl, q⟩ := h
    refine split 9 (fun σ' H' => ∃ (p r2 hd : Addr) (v tv gv : V) (z7 : Option V) (xs : List Int), σ' = [some (.ref a), some (.ref p), some (.ref r2), some v, some (.ref hd), some tv, some gv, z7, none, none, none, none, none, none, none] ∧ SqL K H' a (ns.map V.int) ∧ Rep H' v (Tr.build xs).d ∧ H' r2 = some (.lst (xs.map V.int)) ∧ xs.Nodup ∧ xs.length ≤ 60) ?h2 ?h1
    case h2 =>
      refine ⟨_, (bcons (sset (i := 8) sc_law.nd rfl (by first | exact Or.inl rfl | exact Or.inr rfl) (qF C_law_pen (hr.mono (by omega)) pass0 rfl (qcons (qv 0) (qcons qint qnil))))
      (bcons (sset (i := 9) sc_law.nd rfl (by first | exact Or.inl rfl | exact Or.inr rfl) (qslice (xSl K) (qv 2) onone (osome qint)))
      (bcons (sif (tcmp (rNeq hr) (qv 9) (qlst qnil) (nomark _)) (bcons (sset (i := 10) sc_law.nd rfl (by first | exact Or.inl rfl | exact Or.inr rfl) (qF C_law_take (hr.mono (by omega)) pass0 rfl (qcons (qv 8) (qcons (qB (fLen K) rfl T.b_len bt_len (qcons (qv 9) qnil)) qnil))))
        (bcons (sset (i := 11) sc_law.nd rfl (by first | exact Or.inl rfl | exact Or.inr rfl) (qop rAdd (qop rAdd (qv 10) qint) (qF C_law_take (hr.mono (by omega)) pass0 rfl (qcons (qv 8) (qcons (qop rSub (qB (fLen K) rfl T.b_len bt_len (qcons (qv 9) qnil)) (qv 10)) qnil)))))
        (bcons (sset (i := 12) sc_law.nd rfl (by first | exact Or.inl rfl | exact Or.inr rfl) (qop rAdd (qop rAdd (qslice (xSl K) (qv 9) onone (osome (qv 11))) (qlst (qcons (qix (xIx K) (qv 9) (qv 10) (fun _ _ => rfl)) qnil))) (qslice (xSl K) (qv 9) (osome (qv 11)) onone)))
        (bone (sif (QW.tst (wor (tcmp (rNeq hr) (qF C_law_made (hr.mono (by omega)) pass0 rfl (qcons (qv 12) qnil)) qstr (nomark _)) (wor1 (tcmp (rNeq hr) (qF C_law_put (hr.mono (by omega)) pass0 rfl (qcons (qv 3) (qcons (qix (xIx K) (qv 9) (qv 10) (fun _ _ => rfl)) qnil))) qstr (nomark _))))) (bone (sret qbl)) bnil))))) bnil)
      (bcons (sset (i := 13) sc_law.nd rfl (by first | exact Or.inl rfl | exact Or.inr rfl) (qF C_law_ranks (hr.mono (by omega)) pass0 rfl (qcons (qv 8) (qcons qint qnil))))
      (bcons (sset (i := 14) sc_law.nd rfl (by first | exact Or.inl rfl | exact Or.inr rfl) (qF C_law_tree (hr.mono (by omega)) pass0 rfl (qcons (qv 13) qnil)))
      (bcons (sset (i := 7) sc_law.nd rfl (by first | exact Or.inl rfl | exact Or.inr rfl) (qF C_law_take (hr.mono (by omega)) pass0 rfl (qcons (qv 8) (qcons qint qnil))))
      (bcons (sif (tcmp (rNeq hr) (qF C_law_put (hr.mono (by omega)) pass0 rfl (qcons (qv 14) (qcons (qv 7) qnil))) qstr (nomark _)) (bone (sret qbl)) bnil)
      (bone (sret (qcmp (rEqq hr) (qF C_law_put (hr.mono (by omega)) pass0 rfl (qcons (qv 14) (qcons (qix (xIx K) (qlst (qcons (qun rNeg qint) (qcons qint (qcons (qop rPow qint qint) qnil)))) (qop rMod (qv 7) qint) (fun _ _ => rfl)) qnil))) qstr (nomark _))))))))))), ?_⟩
      rintro σ' H0 ⟨p, r2, hd, v, tv, gv, z7, xs, rfl, hs0, g0, e0, nd, hx60⟩
      obtain ⟨o1, o2, o3⟩ := Tr.build_ok nd
      generalize Tr.build xs = t at *
      have hht := Tr.ht_size t
      refine ⟨_, rfl, a, 1, ns, rfl, hs0, hl, by decide, by decide, fun p' H1 n1 s1 p1 => ?_⟩
      refine ⟨_, rfl, _, rfl, r2, _, rfl, SqL.of (s1 _ _ e0), fun l2 H2 n2 s2 e2 _ => ?_⟩
      rw [show (59 : Int) = ((59 : Nat) : Int) from rfl, cut_hi, ← List.map_take] at e2
      have hsl : (xs.take 59).length ≤ 59 := by rw [List.length_take]; omega
      have hsub : ∀ y ∈ xs.take 59, y ∈ xs := fun y hy => List.mem_of_mem_take hy
      generalize xs.take 59 = so at *
      have q2 := p1.mono s2
      have hlp : l2 ≠ p' := p1.ne n2
      have g2 : Rep (rm p' H2) v t.d := (g0.mono (rm_of s1 n1)).mono (rm_of (rm_same.trans s2) rm_self)
      apply join (fun σ' H' => ∃ z10 z11 z12, σ' = [some (.ref a), some (.ref p), some (.ref r2), some v, some (.ref hd), some tv, some gv, z7, some (.ref p'), some (.ref l2), z10, z11, z12, none, none] ∧ PenAt H' p')
      case h2 =>
        intro hj
        refine ⟨_, rfl, (show 0 ≤ sizeLine by decide), fun l3 H3 n3 s3 e3 _ => ?_⟩
        refine ne_ints (ys := []) (s3 _ _ e2) e3 ?_
        refine ⟨_, rfl, ?_⟩
        by_cases hne : so = []
        · rw [decide_eq_true hne]
          refine iteF ?_
          exact hj _ _ ⟨_, _, _, rfl, q2.mono s3⟩
        · rw [decide_eq_false hne]
          refine iteT ?_
          have hpos : 0 < so.length := List.length_pos_iff.mpr hne
          refine ⟨_, rfl, _, rfl, l2, _, rfl, .inl (SqL.of (s3 _ _ e2)), p', _, rfl, q2.mono s3, by rw [List.length_map]; omega, by rw [List.length_map]; omega, fun at' H4 a40 a41 p4 s4 => ?_⟩
          rw [List.length_map] at a41
          obtain ⟨key, hkey, hkm⟩ := atI_ints (ns := so) a40 a41
          have e4 : H4 l2 = some (.lst (so.map V.int)) := rm_look s4 (s3 _ _ e2) hlp
          have g4 : Rep (rm p' H4) v t.d := (g2.mono (rm_of (rm_same.trans s3) rm_self)).mono (rm_of s4 rm_self)
          refine ⟨_, rfl, _, rfl, _, rfl, l2, _, rfl, .inl (SqL.of e4), _, rfl, _, _, rfl, rfl, p', _, rfl, p4, by rw [List.length_map]; omega, by rw [List.length_map]; omega, fun d5 H5 d50 d51 p5 s5 => ?_⟩
          rw [List.length_map] at d51
          have e5 : H5 l2 = some (.lst (so.map V.int)) := rm_look s5 e4 hlp
          have g5 : Rep (rm p' H5) v t.d := g4.mono (rm_of s5 rm_self)
          obtain ⟨i, rfl⟩ : ∃ i : Nat, at' = (i : Int) := ⟨at'.toNat, by omega⟩
          obtain ⟨j, rfl⟩ : ∃ j : Nat, d5 = (j : Int) := ⟨d5.toNat, by omega⟩
          have hsp : ((i : Int) + 1 + (j : Int)) = ((i + 1 + j : Nat) : Int) := by omega
          refine ⟨_, rfl, _, rfl, _, rfl, l2, _, rfl, SqL.of e5, fun c6 H6 n6 s6 e6 _ => ?_⟩
          rw [hsp, cut_hi, ← List.map_take] at e6
          refine ⟨_, rfl, _, rfl, l2, _, _, _, rfl, rfl, .inl (SqL.of (s6 _ _ e5)), hkey, (show 1 ≤ sizeLine by decide), fun c7 H7 n7 s7 e7 _ => ?_⟩
          refine ⟨_, _, s7 _ _ e6, e7, sizeBig' (by simp; omega), fun c8 H8 n8 s8 e8 _ => ?_⟩
          have s58 := s6.trans (s7.trans s8)
          refine ⟨_, rfl, _, rfl, _, rfl, l2, _, rfl, SqL.of (s58 _ _ e5), fun c9 H9 n9 s9 e9 _ => ?_⟩
          rw [hsp, cut_lo, ← List.map_drop] at e9
          refine ⟨_, _, s9 _ _ e8, e9, sizeBig' (by simp; omega), fun c10 H10 n10 s10 e10 _ => ?_⟩
          have e10' : H10 c10 = some (.lst ((so.take (i + 1 + j) ++ [key] ++ so.drop (i + 1 + j)).map V.int)) := by rw [e10, List.map_append, List.map_append]; rfl
          have s510 := s58.trans (s9.trans s10)
          have hin : key ∈ so.take (i + 1 + j) := by
            refine List.mem_of_getElem? (i := i) ?_
            rw [List.getElem?_take_of_lt (by omega)]
            have hk := hkey
            have hi : i < so.length := by omega
            rw [atI_nat (j := i) (v := V.int so[i]) (by rw [List.getElem?_map, List.getElem?_eq_getElem hi]; rfl)] at hk
            rw [List.getElem?_eq_getElem hi]
            exact congrArg some (V.int.inj (Option.some.inj hk))
          refine ⟨_, rfl, c10, _, rfl, e10', by simp; omega, fun _ H11 s11 => ?_, fun hnd => absurd hnd (not_nd hin)⟩
          refine ⟨_, rfl, ?_⟩
          rw [decide_eq_true rfl]
          refine iteF ?_
          have s511 := s510.trans s11
          refine ⟨_, rfl, _, rfl, _, rfl, l2, _, _, _, rfl, rfl, .inl (SqL.of (s511 _ _ e5)), hkey, v, key, t, rfl, (g5.mono rm_same).mono s511, by omega, by omega, o1, fun _ H12 s12 => ?_, fun hk => absurd ((o3 key).mpr (hsub key hkm)) hk, fun hk => absurd ((o3 key).mpr (hsub key hkm)) hk⟩
          refine ⟨_, rfl, ?_⟩
          rw [decide_eq_true rfl]
          refine iteF ?_
          exact hj _ _ ⟨_, _, _, rfl, p5.mono (s511.trans s12)⟩
      rintro σ G1 ⟨z10, z11, z12, rfl, q1⟩
      refine ⟨_, rfl, p', 60, rfl, q1, by decide, by decide, fun r3 G3 ys m3 u3 q3 f3 R => ?_⟩
      have hyl : ys.length = 60 := R.len
      refine ⟨_, rfl, r3, ys, rfl, f3, by omega, fun gr G4 u4 k4 => ?_⟩
      obtain ⟨b1, b2, b3⟩ := Tr.build_ok R.nd
      generalize Tr.build ys = t2 at *
      have hht2 := Tr.ht_size t2
      have q4 := q3.mono u4
      have k4' : Rep (rm p' G4) gr t2.d := rep_pen q4 _ k4
      refine ⟨_, rfl, p', 60, rfl, q4, by decide, by decide, fun kk G5 kk0 kk1 q5 u5 => ?_⟩
      have k5 : Rep G5 gr t2.d := k4'.mono u5
      have hin : kk ∈ t2.keys := (b3 kk).mpr (all_in R kk0 kk1)
      refine ⟨_, rfl, _, rfl, gr, kk, t2, rfl, k5, by omega, by omega, b1, fun _ G6 u6 => ?_, fun hk => absurd hin hk, fun hk => absurd hin hk⟩
      refine ⟨_, rfl, ?_⟩
      rw [decide_eq_true rfl]
      refine iteF ?_
      refine ⟨_, rfl, _, rfl, _, _, rfl, rfl, ⟨by decide, by decide, by decide⟩, (show 3 ≤ sizeLine by decide), fun l7 G7 m7 u7 f7 _ => ?_⟩
      obtain ⟨c, hc, hcm⟩ := atI_ints (ns := [-1, 60, 10 ^ 59]) (show 0 ≤ kk % 3 by omega) (show kk % 3 < (([-1, 60, 10 ^ 59] : List Int).length : Int) by show kk % 3 < 3; omega)
      have hout : c ∉ t2.keys := fun z => by
        have := R.bd c ((b3 c).mp z)
        simp only [List.mem_cons, List.not_mem_nil, or_false] at hcm
        omega
      refine ⟨_, rfl, _, _, rfl, rfl, (show (0 : Int) < 3 by decide), l7, _, _, .int c, rfl, rfl, .inl (SqL.of f7), hc, gr, c, t2, rfl, (k5.mono u6).mono u7, by omega, by omega, b1, fun hk => absurd hk hout, fun _ _ G8 u8 => ?_, fun _ hs => absurd hs (by omega)⟩
      show rEqG 150 (V.str "full") (V.str "full") G8 _
      refine (show _ from ?_)
      show (_ : VK) (V.bl (decide (("full" : Str) = "full"))) G8
      rw [decide_eq_true rfl]
      exact q G8
    case h1 =>
      intro u pu hu
      refine ⟨_, (bcons (sset (i := 1) sc_law.nd rfl (by first | exact Or.inl rfl | exact Or.inr rfl) (qF C_law_pen (hr.mono (by omega)) pass0 rfl (qcons (qv 0) (qcons qint qnil))))
      (bcons (sset (i := 2) sc_law.nd rfl (by first | exact Or.inl rfl | exact Or.inr rfl) (qF C_law_keys (hr.mono (by omega)) pass0 rfl (qcons (qv 1) (qcons qint qnil))))
      (bcons (sset (i := 3) sc_law.nd rfl (by first | exact Or.inl rfl | exact Or.inr rfl) (qF C_law_tree (hr.mono (by omega)) pass0 rfl (qcons (qv 2) qnil)))
      (bcons (sset (i := 4) sc_law.nd rfl (by first | exact Or.inl rfl | exact Or.inr rfl) (qTy (fList K) rfl T.b_list bt_list (qcons (qv 2) qnil)))
      (bcons (sset (i := 5) sc_law.nd rfl (by first | exact Or.inl rfl | exact Or.inr rfl) (qF C_law_made (hr.mono (by omega)) pass0 rfl (qcons (qv 4) qnil)))
      (bcons (sif (QW.tst (wor (tcmp (rNeq hr) (qv 5) (qv 3) (nomark _)) (wor (tnot (ttru K (qF C_law_plain (hr.mono (by omega)) pass0 rfl (qcons (qv 5) qnil)) (fun _ => rfl))) (wor (tcmp (rNeq hr) (qv 4) (qv 2) (nomark _)) (wor1 (tnot (ttru K (qF C_law_told (hr.mono (by omega)) pass0 rfl (qcons (qv 5) (qcons (qB (fSort K) rfl T.b_sorted bt_sorted (qcons (qv 2) qnil)) qnil))) (fun _ => rfl)))))))) (bone (sret qbl)) bnil)
      (bcons (sset (i := 6) sc_law.nd rfl (by first | exact Or.inl rfl | exact Or.inr rfl) qnon)
      (bcons (sfor PassesOwn.never rfl (iseq K (qv 2)) (gname (i := 7) sc_law.nd rfl (by first | exact Or.inl rfl | exact Or.inr rfl))
        (bone (sset (i := 6) sc_law.nd rfl (by first | exact Or.inl rfl | exact Or.inr rfl) (qF C_law_put (hr.mono (by omega)) pass0 rfl (qcons (qv 6) (qcons (qv 7) qnil))))))
      (bcons (sif (QW.tst (wor (tcmp (rNeq hr) (qv 6) (qv 3) (nomark _)) (wor (tnot (ttru K (qF C_law_plain (hr.mono (by omega)) pass0 rfl (qcons (qv 6) qnil)) (fun _ => rfl))) (wor1 (tnot (ttru K (qF C_law_told (hr.mono (by omega)) pass0 rfl (qcons qnon (qcons (qlst qnil) qnil))) (fun _ => rfl))))))) (bone (sret qbl)) bnil)
      pu))))))))), ?_⟩
      refine ⟨_, rfl, a, 0, ns, rfl, ha, hl, by decide, by decide, fun p H1 n1 s1 p1 => ?_⟩
      refine ⟨_, rfl, p, 60, rfl, p1, by decide, by decide, fun r2 H2 xs n2 s2 p2 e2 nd hx60 hxb => ?_⟩
      refine ⟨_, rfl, r2, xs, rfl, e2, by omega, fun v H3 s3 g3 => ?_⟩
      have s03 : Same H H3 := (rm_of s1 n1).trans (s2.trans s3)
      obtain ⟨o1, o2, o3⟩ := Tr.build_ok nd
      have hht := Tr.ht_size (Tr.build xs)
      have e3 := s3 _ _ e2
      refine ⟨_, rfl, r2, _, rfl, .inl (SqL.of e3), fun hd H4 n4 s4 e4 _ => ?_⟩
      refine ⟨_, rfl, hd, xs, rfl, e4, by omega, fun hn => absurd nd hn, fun _ tv H5 s5 g5 => ?_⟩
      have s35 := s4.trans s5
      refine ⟨_, rfl, _, rfl, ?_⟩
      refine ne_tr g5 (g3.mono s35) (by omega) ?_
      refine ⟨_, rfl, ?_⟩
      refine iteF ?_
      refine ⟨_, rfl, tv, _, rfl, g5, by omega, ?_⟩
      refine ⟨true, rfl, ?_⟩
      refine iteF ?_
      refine ⟨_, rfl, _, rfl, ?_⟩
      refine ne_ints (s5 _ _ e4) (s35 _ _ e3) ?_
      refine ⟨_, rfl, ?_⟩
      rw [decide_eq_true rfl]
      refine iteF ?_
      refine ⟨_, rfl, _, rfl, r2, xs, rfl, SqL.of (s35 _ _ e3), by omega, fun q6 H6 ns6 n6 s6 e6 pm pw => ?_⟩
      rw [sort_keys o1 o3 nd pm pw] at e6
      refine ⟨tv, q6, _, rfl, g5.mono s6, by omega, by omega, e6, fun H7 s7 => ?_⟩
      refine ⟨true, rfl, ?_⟩
      refine iteF ?_
      have s37 := s35.trans (s6.trans s7)
      have hgrow : ∀ i, (Tr.build (xs.take i)) = (xs.take i).foldl (fun t x => t.ins x) Tr.nil := fun i => rfl
      refine ⟨_, rfl, r2, rfl, .inl ⟨⟨_, SqL.of (s37 _ _ e3)⟩, for_list (xs := xs.map V.int) (fun i σ H' => ∃ gv z, σ = [some (.ref a), some (.ref p), some (.ref r2), some v, some (.ref hd), some tv, some gv, z, none, none, none, none, none, none, none] ∧ Same H3 H' ∧ Rep H' gv (Tr.build (xs.take i)).d)
        ⟨.non, none, rfl, s37, .non⟩ (fun i σ H' _ ⟨_, _, _, s', _⟩ => SqL.of (s' _ _ e3)) ?_ ?_⟩⟩
      · rintro i y σ G1 hy ⟨gv, z, rfl, t1, k1⟩
        rw [List.getElem?_map] at hy
        obtain ⟨k, hk, rfl⟩ := Option.map_eq_some_iff.mp hy
        have hi := (List.getElem?_eq_some_iff.mp hk).1
        have ndi : (xs.take i).Nodup := nd.sublist (List.take_sublist _ _)
        obtain ⟨b1, b2, b3⟩ := Tr.build_ok ndi
        have hht2 := Tr.ht_size (Tr.build (xs.take i))
        rw [List.length_take] at b2
        have hk2 : k ∉ (Tr.build (xs.take i)).keys := fun z => by
          have hm := (b3 k).mp z
          obtain ⟨j, hj⟩ := List.mem_iff_getElem?.mp hm
          have hjl := (List.getElem?_eq_some_iff.mp hj).1
          rw [List.length_take] at hjl
          rw [List.getElem?_take_of_lt (by omega)] at hj
          have := (List.getElem?_inj (by omega) nd).mp (hj.trans hk.symm)
          omega
        refine ⟨_, rfl, _, rfl, gv, k, _, rfl, k1, by omega, by omega, b1, fun h => absurd h hk2, fun _ hs => absurd hs (by omega), fun _ _ r H8 s8 g8 => ?_⟩
        refine ⟨r, _, rfl, t1.trans s8, ?_⟩
        have : Tr.build (xs.take (i + 1)) = (Tr.build (xs.take i)).ins k := by
          rw [List.take_add_one, hk]
          unfold Tr.build
          rw [List.foldl_append]; rfl
        rw [this]; exact g8
      rintro σ G1 ⟨gv, z, rfl, t1, k1⟩
      rw [List.length_map, List.take_length] at k1
      refine ⟨_, rfl, _, rfl, ?_⟩
      refine ne_tr k1 (g3.mono t1) (by omega) ?_
      refine ⟨_, rfl, ?_⟩
      refine iteF ?_
      refine ⟨_, rfl, gv, _, rfl, k1, by omega, ?_⟩
      refine ⟨true, rfl, ?_⟩
      refine iteF ?_
      refine ⟨(show 0 ≤ sizeLine by decide), fun l8 G8 m8 u8 f8 _ => ?_⟩
      refine ⟨.non, l8, .nil, rfl, .non, by decide, by decide, f8, fun G9 u9 => ?_⟩
      refine ⟨true, rfl, ?_⟩
      refine iteF ?_
      have t9 := t1.trans (u8.trans u9)
      exact hu _ _ ⟨p, r2, hd, v, tv, gv, z, xs, rfl, (s03.trans t9).seq ha, g3.mono t9, t9 _ _ e3, nd, hx60⟩
end
end K02
namespace K02
open PySem L2 L3
theorem all_mk {l : PySem.W.OpenLaw} {w : World} {K : PySem.W.Frag} {h : Heap} {mg : Str → Option Value} {fa : Addr} (X : K.In h) (G : h.Ns mainGlobals mg) (hfa : mg "law" = some (.ref fa))
    {f0 : Addr} {oc0 kV0 dc0 pm0 cd0 ct0 : Value} {od0 an0 : Option Addr} {sl0 : Array (Option Value)}
    {f1 : Addr} {oc1 kV1 dc1 pm1 cd1 ct1 : Value} {od1 an1 : Option Addr} {sl1 : Array (Option Value)}
    {f2 : Addr} {oc2 kV2 dc2 pm2 cd2 ct2 : Value} {od2 an2 : Option Addr} {sl2 : Array (Option Value)}
    {f3 : Addr} {oc3 kV3 dc3 pm3 cd3 ct3 : Value} {od3 an3 : Option Addr} {sl3 : Array (Option Value)}
    {f4 : Addr} {oc4 kV4 dc4 pm4 cd4 ct4 : Value} {od4 an4 : Option Addr} {sl4 : Array (Option Value)}
    {f5 : Addr} {oc5 kV5 dc5 pm5 cd5 ct5 : Value} {od5 an5 : Option Addr} {sl5 : Array (Option Value)}
    {f6 : Addr} {oc6 kV6 dc6 pm6 cd6 ct6 : Value} {od6 an6 : Option Addr} {sl6 : Array (Option Value)}
    {f7 : Addr} {oc7 kV7 dc7 pm7 cd7 ct7 : Value} {od7 an7 : Option Addr} {sl7 : Array (Option Value)}
    {f8 : Addr} {oc8 kV8 dc8 pm8 cd8 ct8 : Value} {od8 an8 : Option Addr} {sl8 : Array (Option Value)}
    {f9 : Addr} {oc9 kV9 dc9 pm9 cd9 ct9 : Value} {od9 an9 : Option Addr} {sl9 : Array (Option Value)}
    {f10 : Addr} {oc10 kV10 dc10 pm10 cd10 ct10 : Value} {od10 an10 : Option Addr} {sl10 : Array (Option Value)}
    {f11 : Addr} {oc11 kV11 dc11 pm11 cd11 ct11 : Value} {od11 an11 : Option Addr} {sl11 : Array (Option Value)}
    {f12 : Addr} {oc12 kV12 dc12 pm12 cd12 ct12 : Value} {od12 an12 : Option Addr} {sl12 : Array (Option Value)}
    {f13 : Addr} {oc13 kV13 dc13 pm13 cd13 ct13 : Value} {od13 an13 : Option Addr} {sl13 : Array (Option Value)}
    {f14 : Addr} {oc14 kV14 dc14 pm14 cd14 ct14 : Value} {od14 an14 : Option Addr} {sl14 : Array (Option Value)}
    {f15 : Addr} {oc15 kV15 dc15 pm15 cd15 ct15 : Value} {od15 an15 : Option Addr} {sl15 : Array (Option Value)}
    {f16 : Addr} {oc16 kV16 dc16 pm16 cd16 ct16 : Value} {od16 an16 : Option Addr} {sl16 : Array (Option Value)}
    {f17 : Addr} {oc17 kV17 dc17 pm17 cd17 ct17 : Value} {od17 an17 : Option Addr} {sl17 : Array (Option Value)}
    {f18 : Addr} {oc18 kV18 dc18 pm18 cd18 ct18 : Value} {od18 an18 : Option Addr} {sl18 : Array (Option Value)}
    (a0 : PySem.W.nsIn K mainGlobals "keys_of" = some (some (.ref f0))) (l0 : K.lookup f0 = some ⟨oc0, od0, .func (PySem.W.fnOf "keys_of" "keys_of" (defArgs s_keys_of) (defBody s_keys_of) (defScope s_keys_of) .none kV0 dc0 pm0 an0 cd0 ct0), sl0⟩) (c0 : PySem.W.codeIn K cd0 "keys_of" = true) (k0 : PySem.W.keepIn K (.ref f0) = true)
    (a1 : PySem.W.nsIn K mainGlobals "side_towards" = some (some (.ref f1))) (l1 : K.lookup f1 = some ⟨oc1, od1, .func (PySem.W.fnOf "side_towards" "side_towards" (defArgs s_side_towards) (defBody s_side_towards) (defScope s_side_towards) .none kV1 dc1 pm1 an1 cd1 ct1), sl1⟩) (c1 : PySem.W.codeIn K cd1 "side_towards" = true) (k1 : PySem.W.keepIn K (.ref f1) = true)
    (a2 : PySem.W.nsIn K mainGlobals "knot_at" = some (some (.ref f2))) (l2 : K.lookup f2 = some ⟨oc2, od2, .func (PySem.W.fnOf "knot_at" "knot_at" (defArgs s_knot_at) (defBody s_knot_at) (defScope s_knot_at) .none kV2 dc2 pm2 an2 cd2 ct2), sl2⟩) (c2 : PySem.W.codeIn K cd2 "knot_at" = true) (k2 : PySem.W.keepIn K (.ref f2) = true)
    (a3 : PySem.W.nsIn K mainGlobals "with_key" = some (some (.ref f3))) (l3 : K.lookup f3 = some ⟨oc3, od3, .func (PySem.W.fnOf "with_key" "with_key" (defArgs s_with_key) (defBody s_with_key) (defScope s_with_key) .none kV3 dc3 pm3 an3 cd3 ct3), sl3⟩) (c3 : PySem.W.codeIn K cd3 "with_key" = true) (k3 : PySem.W.keepIn K (.ref f3) = true)
    (a4 : PySem.W.nsIn K mainGlobals "put" = some (some (.ref f4))) (l4 : K.lookup f4 = some ⟨oc4, od4, .func (PySem.W.fnOf "put" "put" (defArgs s_put) (defBody s_put) (defScope s_put) .none kV4 dc4 pm4 an4 cd4 ct4), sl4⟩) (c4 : PySem.W.codeIn K cd4 "put" = true) (k4 : PySem.W.keepIn K (.ref f4) = true)
    (a5 : PySem.W.nsIn K mainGlobals "tree_of" = some (some (.ref f5))) (l5 : K.lookup f5 = some ⟨oc5, od5, .func (PySem.W.fnOf "tree_of" "tree_of" (defArgs s_tree_of) (defBody s_tree_of) (defScope s_tree_of) .none kV5 dc5 pm5 an5 cd5 ct5), sl5⟩) (c5 : PySem.W.codeIn K cd5 "tree_of" = true) (k5 : PySem.W.keepIn K (.ref f5) = true)
    (a6 : PySem.W.nsIn K mainGlobals "_law_pen" = some (some (.ref f6))) (l6 : K.lookup f6 = some ⟨oc6, od6, .func (PySem.W.fnOf "_law_pen" "_law_pen" (defArgs s_law_pen) (defBody s_law_pen) (defScope s_law_pen) .none kV6 dc6 pm6 an6 cd6 ct6), sl6⟩) (c6 : PySem.W.codeIn K cd6 "_law_pen" = true) (k6 : PySem.W.keepIn K (.ref f6) = true)
    (a7 : PySem.W.nsIn K mainGlobals "_law_take" = some (some (.ref f7))) (l7 : K.lookup f7 = some ⟨oc7, od7, .func (PySem.W.fnOf "_law_take" "_law_take" (defArgs s_law_take) (defBody s_law_take) (defScope s_law_take) .none kV7 dc7 pm7 an7 cd7 ct7), sl7⟩) (c7 : PySem.W.codeIn K cd7 "_law_take" = true) (k7 : PySem.W.keepIn K (.ref f7) = true)
    (a8 : PySem.W.nsIn K mainGlobals "_law_middles" = some (some (.ref f8))) (l8 : K.lookup f8 = some ⟨oc8, od8, .func (PySem.W.fnOf "_law_middles" "_law_middles" (defArgs s_law_middles) (defBody s_law_middles) (defScope s_law_middles) .none kV8 dc8 pm8 an8 cd8 ct8), sl8⟩) (c8 : PySem.W.codeIn K cd8 "_law_middles" = true) (k8 : PySem.W.keepIn K (.ref f8) = true)
    (a9 : PySem.W.nsIn K mainGlobals "_law_ranks" = some (some (.ref f9))) (l9 : K.lookup f9 = some ⟨oc9, od9, .func (PySem.W.fnOf "_law_ranks" "_law_ranks" (defArgs s_law_ranks) (defBody s_law_ranks) (defScope s_law_ranks) .none kV9 dc9 pm9 an9 cd9 ct9), sl9⟩) (c9 : PySem.W.codeIn K cd9 "_law_ranks" = true) (k9 : PySem.W.keepIn K (.ref f9) = true)
    (a10 : PySem.W.nsIn K mainGlobals "_law_keys" = some (some (.ref f10))) (l10 : K.lookup f10 = some ⟨oc10, od10, .func (PySem.W.fnOf "_law_keys" "_law_keys" (defArgs s_law_keys) (defBody s_law_keys) (defScope s_law_keys) .none kV10 dc10 pm10 an10 cd10 ct10), sl10⟩) (c10 : PySem.W.codeIn K cd10 "_law_keys" = true) (k10 : PySem.W.keepIn K (.ref f10) = true)
    (a11 : PySem.W.nsIn K mainGlobals "_law_grown" = some (some (.ref f11))) (l11 : K.lookup f11 = some ⟨oc11, od11, .func (PySem.W.fnOf "_law_grown" "_law_grown" (defArgs s_law_grown) (defBody s_law_grown) (defScope s_law_grown) .none kV11 dc11 pm11 an11 cd11 ct11), sl11⟩) (c11 : PySem.W.codeIn K cd11 "_law_grown" = true) (k11 : PySem.W.keepIn K (.ref f11) = true)
    (a12 : PySem.W.nsIn K mainGlobals "_law_tree" = some (some (.ref f12))) (l12 : K.lookup f12 = some ⟨oc12, od12, .func (PySem.W.fnOf "_law_tree" "_law_tree" (defArgs s_law_tree) (defBody s_law_tree) (defScope s_law_tree) .none kV12 dc12 pm12 an12 cd12 ct12), sl12⟩) (c12 : PySem.W.codeIn K cd12 "_law_tree" = true) (k12 : PySem.W.keepIn K (.ref f12) = true)
    (a13 : PySem.W.nsIn K mainGlobals "_law_kind" = some (some (.ref f13))) (l13 : K.lookup f13 = some ⟨oc13, od13, .func (PySem.W.fnOf "_law_kind" "_law_kind" (defArgs s_law_kind) (defBody s_law_kind) (defScope s_law_kind) .none kV13 dc13 pm13 an13 cd13 ct13), sl13⟩) (c13 : PySem.W.codeIn K cd13 "_law_kind" = true) (k13 : PySem.W.keepIn K (.ref f13) = true)
    (a14 : PySem.W.nsIn K mainGlobals "_law_made" = some (some (.ref f14))) (l14 : K.lookup f14 = some ⟨oc14, od14, .func (PySem.W.fnOf "_law_made" "_law_made" (defArgs s_law_made) (defBody s_law_made) (defScope s_law_made) .none kV14 dc14 pm14 an14 cd14 ct14), sl14⟩) (c14 : PySem.W.codeIn K cd14 "_law_made" = true) (k14 : PySem.W.keepIn K (.ref f14) = true)
    (a15 : PySem.W.nsIn K mainGlobals "_law_put" = some (some (.ref f15))) (l15 : K.lookup f15 = some ⟨oc15, od15, .func (PySem.W.fnOf "_law_put" "_law_put" (defArgs s_law_put) (defBody s_law_put) (defScope s_law_put) .none kV15 dc15 pm15 an15 cd15 ct15), sl15⟩) (c15 : PySem.W.codeIn K cd15 "_law_put" = true) (k15 : PySem.W.keepIn K (.ref f15) = true)
    (a16 : PySem.W.nsIn K mainGlobals "_law_plain" = some (some (.ref f16))) (l16 : K.lookup f16 = some ⟨oc16, od16, .func (PySem.W.fnOf "_law_plain" "_law_plain" (defArgs s_law_plain) (defBody s_law_plain) (defScope s_law_plain) .none kV16 dc16 pm16 an16 cd16 ct16), sl16⟩) (c16 : PySem.W.codeIn K cd16 "_law_plain" = true) (k16 : PySem.W.keepIn K (.ref f16) = true)
    (a17 : PySem.W.nsIn K mainGlobals "_law_told" = some (some (.ref f17))) (l17 : K.lookup f17 = some ⟨oc17, od17, .func (PySem.W.fnOf "_law_told" "_law_told" (defArgs s_law_told) (defBody s_law_told) (defScope s_law_told) .none kV17 dc17 pm17 an17 cd17 ct17), sl17⟩) (c17 : PySem.W.codeIn K cd17 "_law_told" = true) (k17 : PySem.W.keepIn K (.ref f17) = true)
    (a18 : PySem.W.nsIn K mainGlobals "law" = some (some (.ref f18))) (l18 : K.lookup f18 = some ⟨oc18, od18, .func (PySem.W.fnOf "law" "law" (defArgs s_law) (defBody s_law) (defScope s_law) .none kV18 dc18 pm18 an18 cd18 ct18), sl18⟩) (c18 : PySem.W.codeIn K cd18 "law" = true) (k18 : PySem.W.keepIn K (.ref f18) = true)
    (z_ValueError : PySem.W.nsIn K mainGlobals "ValueError" = some none) (z_abs : PySem.W.nsIn K mainGlobals "abs" = some none) (z_bool : PySem.W.nsIn K mainGlobals "bool" = some none) (z_int : PySem.W.nsIn K mainGlobals "int" = some none) (z_isinstance : PySem.W.nsIn K mainGlobals "isinstance" = some none) (z_len : PySem.W.nsIn K mainGlobals "len" = some none) (z_list : PySem.W.nsIn K mainGlobals "list" = some none) (z_range : PySem.W.nsIn K mainGlobals "range" = some none) (z_set : PySem.W.nsIn K mainGlobals "set" = some none) (z_sorted : PySem.W.nsIn K mainGlobals "sorted" = some none) (z_tuple : PySem.W.nsIn K mainGlobals "tuple" = some none) {tk_MOST_KEYS : Tok} (z_MOST_KEYS : PySem.W.nsIn K mainGlobals "MOST_KEYS" = some (some (.int 60 tk_MOST_KEYS)))
    {cL cT cH cF cN cM cX cW : Addr} (xL : PySem.W.nsIn K mainGlobals "LeafError" = some (some (.ref cL))) (xT : PySem.W.nsIn K mainGlobals "NoTree" = some (some (.ref cT))) (xH : PySem.W.nsIn K mainGlobals "There" = some (some (.ref cH))) (xF : PySem.W.nsIn K mainGlobals "Full" = some (some (.ref cF))) (xN : PySem.W.nsIn K mainGlobals "NotThere" = some (some (.ref cN))) (xM : PySem.W.nsIn K mainGlobals "NoRoom" = some (some (.ref cM))) (xX : PySem.W.nsIn K mainGlobals "NoText" = some (some (.ref cX))) (xW : PySem.W.nsIn K mainGlobals "NoRow" = some (some (.ref cW)))
    (oL : PySem.W.excIn K cL [.type "ValueError", .type "Exception", .type "BaseException", .type "object"] "ValueError.__new__" = true) (oT : PySem.W.excIn K cT [.type "ValueError", .type "Exception", .type "BaseException", .type "object"] "ValueError.__new__" = true) (oH : PySem.W.excIn K cH [.type "ValueError", .type "Exception", .type "BaseException", .type "object"] "ValueError.__new__" = true) (oF : PySem.W.excIn K cF [.type "ValueError", .type "Exception", .type "BaseException", .type "object"] "ValueError.__new__" = true)
    (mT : PySem.W.exmOne K (.ref cT) (.ref cL) = some true) (mH : PySem.W.exmOne K (.ref cH) (.ref cL) = some true) (mF : PySem.W.exmOne K (.ref cF) (.ref cL) = some true)
    (kT1 : PySem.W.kitOne K (.ref cT) (.ref cT) = some true) (kT2 : PySem.W.kitOne K (.ref cT) (.ref cH) = some false) (kT3 : PySem.W.kitOne K (.ref cT) (.ref cF) = some false) (kT4 : PySem.W.kitAny K (.ref cT) (([cN, cM, cX, cW] : List Addr).map Value.ref) = some false) (kT5 : PySem.W.kitOne K (.ref cT) (.type "ValueError") = some true) (wT1 : PySem.W.findIn K (.ref cT) "__getattribute__" = some (some (.builtin "BaseException.__getattribute__"))) (wT2 : PySem.W.findIn K (.ref cT) "__getattr__" = some none) (wT3 : PySem.W.mroIn K cT (.type "BaseException") = some true) (wT4 : (PySem.W.clsIn K cT).isSome = true) (wT5 : PySem.W.findIn K (.ref cT) "__class__" = some (some (.builtin "object.__class__"))) (wT6 : PySem.W.mroIn K cT (.type "object") = some true)
    (kH1 : PySem.W.kitOne K (.ref cH) (.ref cT) = some false) (kH2 : PySem.W.kitOne K (.ref cH) (.ref cH) = some true) (kH3 : PySem.W.kitOne K (.ref cH) (.ref cF) = some false) (kH4 : PySem.W.kitAny K (.ref cH) (([cN, cM, cX, cW] : List Addr).map Value.ref) = some false) (kH5 : PySem.W.kitOne K (.ref cH) (.type "ValueError") = some true) (wH1 : PySem.W.findIn K (.ref cH) "__getattribute__" = some (some (.builtin "BaseException.__getattribute__"))) (wH2 : PySem.W.findIn K (.ref cH) "__getattr__" = some none) (wH3 : PySem.W.mroIn K cH (.type "BaseException") = some true) (wH4 : (PySem.W.clsIn K cH).isSome = true) (wH5 : PySem.W.findIn K (.ref cH) "__class__" = some (some (.builtin "object.__class__"))) (wH6 : PySem.W.mroIn K cH (.type "object") = some true)
    (kF1 : PySem.W.kitOne K (.ref cF) (.ref cT) = some false) (kF2 : PySem.W.kitOne K (.ref cF) (.ref cH) = some false) (kF3 : PySem.W.kitOne K (.ref cF) (.ref cF) = some true) (kF4 : PySem.W.kitAny K (.ref cF) (([cN, cM, cX, cW] : List Addr).map Value.ref) = some false) (kF5 : PySem.W.kitOne K (.ref cF) (.type "ValueError") = some true) (wF1 : PySem.W.findIn K (.ref cF) "__getattribute__" = some (some (.builtin "BaseException.__getattribute__"))) (wF2 : PySem.W.findIn K (.ref cF) "__getattr__" = some none) (wF3 : PySem.W.mroIn K cF (.type "BaseException") = some true) (wF4 : (PySem.W.clsIn K cF).isSome = true) (wF5 : PySem.W.findIn K (.ref cF) "__class__" = some (some (.builtin "object.__class__"))) (wF6 : PySem.W.mroIn K cF (.type "object") = some true)
    (v1 : PySem.W.specialIn K (.builtin "object.__class__") "__get__" = some (some (.builtin "getset_descriptor.__get__"))) (v2 : PySem.W.takesIn K (.builtin "object.__class__") = some true) :
    ∃ fd : FuncData, (∀ (s : Shared) (v : Value), BindsTo s fd ⟨[v], []⟩ [("_law_script", v)]) ∧ ∀ base : Heap, K.In base → base.Ns mainGlobals mg → FnOk l.prog w K mg base CX0 91 fa fd ["_law_script"] (spLaw K) := by
  have e := hfa.symm.trans (PySem.W.mg_of X G a18)
  cases e
  have F_keys_of : Fd K mg "keys_of" s_keys_of f0 := fd_mk X G a0 l0 c0 k0
  have F_side_towards : Fd K mg "side_towards" s_side_towards f1 := fd_mk X G a1 l1 c1 k1
  have F_knot_at : Fd K mg "knot_at" s_knot_at f2 := fd_mk X G a2 l2 c2 k2
  have F_with_key : Fd K mg "with_key" s_with_key f3 := fd_mk X G a3 l3 c3 k3
  have F_put : Fd K mg "put" s_put f4 := fd_mk X G a4 l4 c4 k4
  have F_tree_of : Fd K mg "tree_of" s_tree_of f5 := fd_mk X G a5 l5 c5 k5
  have F_law_pen : Fd K mg "_law_pen" s_law_pen f6 := fd_mk X G a6 l6 c6 k6
  have F_law_take : Fd K mg "_law_take" s_law_take f7 := fd_mk X G a7 l7 c7 k7
  have F_law_middles : Fd K mg "_law_middles" s_law_middles f8 := fd_mk X G a8 l8 c8 k8
  have F_law_ranks : Fd K mg "_law_ranks" s_law_ranks f9 := fd_mk X G a9 l9 c9 k9
  have F_law_keys : Fd K mg "_law_keys" s_law_keys f10 := fd_mk X G a10 l10 c10 k10
  have F_law_grown : Fd K mg "_law_grown" s_law_grown f11 := fd_mk X G a11 l11 c11 k11
  have F_law_tree : Fd K mg "_law_tree" s_law_tree f12 := fd_mk X G a12 l12 c12 k12
  have F_law_kind : Fd K mg "_law_kind" s_law_kind f13 := fd_mk X G a13 l13 c13 k13
  have F_law_made : Fd K mg "_law_made" s_law_made f14 := fd_mk X G a14 l14 c14 k14
  have F_law_put : Fd K mg "_law_put" s_law_put f15 := fd_mk X G a15 l15 c15 k15
  have F_law_plain : Fd K mg "_law_plain" s_law_plain f16 := fd_mk X G a16 l16 c16 k16
  have F_law_told : Fd K mg "_law_told" s_law_told f17 := fd_mk X G a17 l17 c17 k17
  have T : Tx K mg := ⟨PySem.W.mg_none_of X G z_ValueError, PySem.W.mg_none_of X G z_abs, PySem.W.mg_none_of X G z_bool, PySem.W.mg_none_of X G z_int, PySem.W.mg_none_of X G z_isinstance, PySem.W.mg_none_of X G z_len, PySem.W.mg_none_of X G z_list, PySem.W.mg_none_of X G z_range, PySem.W.mg_none_of X G z_set, PySem.W.mg_none_of X G z_sorted, PySem.W.mg_none_of X G z_tuple, ⟨_, PySem.W.mg_of X G z_MOST_KEYS⟩⟩
  refine ⟨PySem.W.fnOf "law" "law" (defArgs s_law) (defBody s_law) (defScope s_law) .none kV18 dc18 pm18 an18 cd18 ct18, fun s v => .of_eq rfl, fun base _ _ => ?_⟩
  have mgo : ∀ {x : Str} {C : Addr}, PySem.W.nsIn K mainGlobals x = some (some (.ref C)) → mg x = some (.ref C) := fun e => PySem.W.mg_of X G e
  have RE : Er K mg cL cT cH cF cN cM cX cW := ⟨⟨mgo xL, oL⟩, ⟨mgo xT, oT⟩, ⟨mgo xH, oH⟩, ⟨mgo xF, oF⟩, mgo xN, mgo xM, mgo xX, mgo xW, mT, mH, mF, ⟨kT1, kT2, kT3, kT4, kT5, ⟨wT1, wT2, wT3, wT4, wT5, v1, v2, wT6⟩⟩, ⟨kH1, kH2, kH3, kH4, kH5, ⟨wH1, wH2, wH3, wH4, wH5, v1, v2, wH6⟩⟩, ⟨kF1, kF2, kF3, kF4, kF5, ⟨wF1, wF2, wF3, wF4, wF5, v1, v2, wF6⟩⟩⟩
  have C_take : Cal l.prog w K mg base CX0 1 "_law_take" spTake := ok_take F_law_take T
  have C_mid : Cal l.prog w K mg base CX0 70 "_law_middles" (spMid 70) := ok_mid F_law_middles T 70
  have C_ranks := ok_ranks F_law_ranks T C_take C_mid
  have C_side := ok_side (P := l.prog) (w := w) (base := base) F_side_towards T
  have C_kof : Cal l.prog w K mg base CX0 82 "keys_of" (spKof 82) := ok_kof F_keys_of T 82
  have C_wkey : Cal l.prog w K mg base CX0 80 "with_key" (spPut 80) := ok_wkey F_with_key T 80
  have C_kind := ok_kind (P := l.prog) (w := w) (base := base) F_law_kind T RE
  have C_made := ok_made F_law_made T RE (ok_tofE F_tree_of T RE.eT C_wkey) C_kind
  have C_lput := ok_lput F_law_put T RE (ok_putE F_put T RE.eH RE.eF (ok_at F_knot_at T C_side) C_kof C_wkey) C_kind
  exact ok_law (fun_mk l18 c18 k18) T (ok_pen F_law_pen T) C_take (ok_keys F_law_keys T C_take C_ranks) (ok_tree F_law_tree T (ok_grown F_law_grown T 70)) C_ranks C_made C_lput (ok_plain F_law_plain T 80) (ok_told F_law_told T C_kof)
theorem walk {l : PySem.W.OpenLaw} {q : Program} {loose : List Str} {XP : (Str → Option Value) → Heap → Prop} {YP : World → Heap → Prop} {d : DefRec} {K : Params → PySem.W.Frag} (hn : l.most = some 63) (hdf : d.params.defaults = [])
    (hY : ∀ (w : World) (h : Heap), YP w h → (K w.params).In h)
    (F : ∀ (w : World) (mg : Str → Option Value) (fa : Addr) (h : Heap), (K w.params).In h → h.Ns mainGlobals mg → mg d.name = some (.ref fa) →
      ∃ fd : FuncData, (∀ (s : Shared) (u : Value), BindsTo s fd ⟨[u], []⟩ [("_law_script", u)]) ∧ ∀ base : Heap, (K w.params).In base → base.Ns mainGlobals mg → FnOk l.prog w (K w.params) mg base CX0 91 fa fd ["_law_script"] (spLaw (K w.params))) :
    PySem.W.WalkO q loose XP YP l.row.toRowW d [] (fun f vs => PySem.call f vs) :=
  L2.walk_of (n := 63) (k := 91) (x := "_law_script") (CX := fun _ => CX0) (sp := fun w => spLaw (K w.params)) hn (by decide) hdf ⟨rfl, by decide, by decide, rfl⟩ hY F (fun _ _ a ns hl _ hS => ⟨a, ns, rfl, hS, hl, fun _ => rfl⟩) fun _ _ _ _ _ z => z
end K02
open PySem PySem.W PyProof.Rows
set_option maxRecDepth 100000 in
set_option maxHeartbeats 0 in
theorem PySem.Challenge.cw_leafpages_k02_trees_made_holds : PySem.Challenge.rw_leafpages_k02_trees_made.Holds := by
  w_on; o_law; k_head; (case hw => w_witness2)
  k_fill
  refine K02.walk (l := PySem.Challenge.rw_leafpages_k02_trees_made) rfl rfl (fun w h Y => PySem.W.kIn_of Y) ?F
  case F =>
    intro w mg fa h KX G hmg
    refine' K02.all_mk KX G hmg ?a0 ?l0 ?c0 ?k0 ?a1 ?l1 ?c1 ?k1 ?a2 ?l2 ?c2 ?k2 ?a3 ?l3 ?c3 ?k3 ?a4 ?l4 ?c4 ?k4 ?a5 ?l5 ?c5 ?k5 ?a6 ?l6 ?c6 ?k6 ?a7 ?l7 ?c7 ?k7 ?a8 ?l8 ?c8 ?k8 ?a9 ?l9 ?c9 ?k9 ?a10 ?l10 ?c10 ?k10 ?a11 ?l11 ?c11 ?k11 ?a12 ?l12 ?c12 ?k12 ?a13 ?l13 ?c13 ?k13 ?a14 ?l14 ?c14 ?k14 ?a15 ?l15 ?c15 ?k15 ?a16 ?l16 ?c16 ?k16 ?a17 ?l17 ?c17 ?k17 ?a18 ?l18 ?c18 ?k18 ?z_ValueError ?z_abs ?z_bool ?z_int ?z_isinstance ?z_len ?z_list ?z_range ?z_set ?z_sorted ?z_tuple ?z_MOST_KEYS ?xL ?xT ?xH ?xF ?xN ?xM ?xX ?xW ?oL ?oT ?oH ?oF ?mT ?mH ?mF ?kT1 ?kT2 ?kT3 ?kT4 ?kT5 ?wT1 ?wT2 ?wT3 ?wT4 ?wT5 ?wT6 ?kH1 ?kH2 ?kH3 ?kH4 ?kH5 ?wH1 ?wH2 ?wH3 ?wH4 ?wH5 ?wH6 ?kF1 ?kF2 ?kF3 ?kF4 ?kF5 ?wF1 ?wF2 ?wF3 ?wF4 ?wF5 ?wF6 ?v1 ?v2
    (case a0 => k_is)
    (case l0 => k_is)
    (case c0 => k_is)
    (case k0 => k_is)
    (case a1 => k_is)
    (case l1 => k_is)
    (case c1 => k_is)
    (case k1 => k_is)
    (case a2 => k_is)
    (case l2 => k_is)
    (case c2 => k_is)
    (case k2 => k_is)
    (case a3 => k_is)
    (case l3 => k_is)
    (case c3 => k_is)
    (case k3 => k_is)
    (case a4 => k_is)
    (case l4 => k_is)
    (case c4 => k_is)
    (case k4 => k_is)
    (case a5 => k_is)
    (case l5 => k_is)
    (case c5 => k_is)
    (case k5 => k_is)
    (case a6 => k_is)
    (case l6 => k_is)
    (case c6 => k_is)
    (case k6 => k_is)
    (case a7 => k_is)
    (case l7 => k_is)
    (case c7 => k_is)
    (case k7 => k_is)
    (case a8 => k_is)
    (case l8 => k_is)
    (case c8 => k_is)
    (case k8 => k_is)
    (case a9 => k_is)
    (case l9 => k_is)
    (case c9 => k_is)
    (case k9 => k_is)
    (case a10 => k_is)
    (case l10 => k_is)
    (case c10 => k_is)
    (case k10 => k_is)
    (case a11 => k_is)
    (case l11 => k_is)
    (case c11 => k_is)
    (case k11 => k_is)
    (case a12 => k_is)
    (case l12 => k_is)
    (case c12 => k_is)
    (case k12 => k_is)
    (case a13 => k_is)
    (case l13 => k_is)
    (case c13 => k_is)
    (case k13 => k_is)
    (case a14 => k_is)
    (case l14 => k_is)
    (case c14 => k_is)
    (case k14 => k_is)
    (case a15 => k_is)
    (case l15 => k_is)
    (case c15 => k_is)
    (case k15 => k_is)
    (case a16 => k_is)
    (case l16 => k_is)
    (case c16 => k_is)
    (case k16 => k_is)
    (case a17 => k_is)
    (case l17 => k_is)
    (case c17 => k_is)
    (case k17 => k_is)
    (case a18 => k_is)
    (case l18 => k_is)
    (case c18 => k_is)
    (case k18 => k_is)
    (case z_ValueError => k_is)
    (case z_abs => k_is)
    (case z_bool => k_is)
    (case z_int => k_is)
    (case z_isinstance => k_is)
    (case z_len => k_is)
    (case z_list => k_is)
    (case z_range => k_is)
    (case z_set => k_is)
    (case z_sorted => k_is)
    (case z_tuple => k_is)
    (case z_MOST_KEYS => k_is)
    (case xL => k_is)
    (case xT => k_is)
    (case xH => k_is)
    (case xF => k_is)
    (case xN => k_is)
    (case xM => k_is)
    (case xX => k_is)
    (case xW => k_is)
    (case oL => kernel_rfl)
    (case oT => kernel_rfl)
    (case oH => kernel_rfl)
    (case oF => kernel_rfl)
    (case mT => kernel_rfl)
    (case mH => kernel_rfl)
    (case mF => kernel_rfl)
    (case kT1 => kernel_rfl)
    (case kT2 => kernel_rfl)
    (case kT3 => kernel_rfl)
    (case kT4 => kernel_rfl)
    (case kT5 => kernel_rfl)
    (case wT1 => kernel_rfl)
    (case wT2 => kernel_rfl)
    (case wT3 => kernel_rfl)
    (case wT4 => kernel_rfl)
    (case wT5 => kernel_rfl)
    (case wT6 => kernel_rfl)
    (case kH1 => kernel_rfl)
    (case kH2 => kernel_rfl)
    (case kH3 => kernel_rfl)
    (case kH4 => kernel_rfl)
    (case kH5 => kernel_rfl)
    (case wH1 => kernel_rfl)
    (case wH2 => kernel_rfl)
    (case wH3 => kernel_rfl)
    (case wH4 => kernel_rfl)
    (case wH5 => kernel_rfl)
    (case wH6 => kernel_rfl)
    (case kF1 => kernel_rfl)
    (case kF2 => kernel_rfl)
    (case kF3 => kernel_rfl)
    (case kF4 => kernel_rfl)
    (case kF5 => kernel_rfl)
    (case wF1 => kernel_rfl)
    (case wF2 => kernel_rfl)
    (case wF3 => kernel_rfl)
    (case wF4 => kernel_rfl)
    (case wF5 => kernel_rfl)
    (case wF6 => kernel_rfl)
    (case v1 => kernel_rfl)
    (case v2 => kernel_rfl)
